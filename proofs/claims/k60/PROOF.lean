import PyProof.Rows.All
import Wide.All
import OpenK.AllK
import Wide.FinOn
import HandS.ClsMeth
import HandS.Codes
import HandS.Defaults
import HandS.DictComp
import HandS.EndOwn
import HandS.Evl
import HandS.ExcField
import HandS.ExcIs
import HandS.ExcOwn
import HandS.FStr
import HandS.ForExc
import HandS.ForMost
import HandS.Gcd
import HandS.IsInst
import HandS.Lambda
import HandS.List
import HandS.MakeKwOnly
import HandS.More
import HandS.NestedK
import HandS.OwnEq
import HandS.Set
import HandS.SetFor
import HandS.SetTxt0
import HandS.SortKw
import HandS.Star
import HandS.StrMore
import HandS.Strs
import HandS.TryMany
import HandS.TupAny
import HandS.Wide
import HandS.WordsExc
import HandS.Zip
import KE.DatumOrd
import KE.GoesEnum
import KE.GoesMore
import KE.IntTextLaws
import KE.KDictDisplayH
import KE.KExcInit
import KE.KExcIs
import KE.LtSeq
import KE.SortData
import PyProof.CallFns
import PyProof.InstNe
import PyProof.ReprLen
import PyProof.ReprReads
import PyProof.ReprRoads
import PyProof.Rows.SortShellAny
import PyProof.Rows.StrFirst
import PySem.Challenge.RW_curvebells_k60_rooms_and_their_texts
set_option Elab.async false
set_option linter.all false
set_option maxRecDepth 100000
set_option maxHeartbeats 16000000
/-! sets of texts, made of a list or tuple; sorted of them -/
namespace St
open PySem PySem.Spec PyProof.Rows L2 PySem.Froz
section
variable {P : Program} {w : World} {A : Around} {E : Value → Shared → Prop} {s : Shared}
/-- the order of a set's walk is known to be some order -/
def Led (w : World) (t : SetTable) : Prop := w.params.followText "set-order" = true ∨ t.led = true
/-- the set of the texts l stands at a -/
def TS (P : Program) (w : World) (h : Heap) (a : Addr) (l : List Str) : Prop := ∃ D, h.get? a = some (sObj "set" D) ∧ TxOk P w D l ∧ Ris D.2.2.place.toList ∧ Led w D.2.2 ∧ l.Nodup
theorem TS.at {h h' : Heap} {a : Addr} {l : List Str} (R : TS P w h a l) (k : ∀ o, h.get? a = some o → h'.get? a = some o) : TS P w h' a l := let ⟨D, e, r⟩ := R; ⟨D, k _ e, r⟩
theorem tail_ris {es : Array (Int × Value)} {t : SetTable} {ep : Nat} {wd : Bool} (r : Ris t.place.toList) : Ris (tailTx ep es t wd).2.2.place.toList := by
  unfold tailTx
  by_cases c : (!wd && t.tooFull) = true
  · rw [if_pos c]; exact relayAll_ris _ _ _
  · rw [if_neg c]; exact r
theorem tail_led {es : Array (Int × Value)} {t : SetTable} {ep : Nat} {wd : Bool} (r : t.led = true) : (tailTx ep es t wd).2.2.led = true := by
  unfold tailTx
  by_cases c : (!wd && t.tooFull) = true
  · rw [if_pos c]; exact (relayAll_led _ _ _).trans r
  · rw [if_neg c]; exact r
theorem addTx_ris {D : SD} {n : Int} {v : Value} (r : Ris D.2.2.place.toList) : Ris (addTx n v D).2.2.place.toList := by
  have r1 := layNew_ris D.2.2 D.1 n v r
  unfold addTx
  refine tail_ris ?_
  by_cases c : (layNew D.2.2 D.1 n v).2.1.plain = true
  · rw [if_pos c]; exact r1
  · rw [if_neg c]; exact r1
theorem addTx_led {D : SD} {n : Int} {v : Value} (r : Led w D.2.2) : Led w (addTx n v D).2.2 := by
  rcases r with r | r
  · exact .inl r
  · have l1 : (layNew D.2.2 D.1 n v).2.1.led = true := (layNew_led _ _ _ _).trans r
    refine .inr ?_
    unfold addTx
    refine tail_led ?_
    by_cases c : (layNew D.2.2 D.1 n v).2.1.plain = true
    · rw [if_pos c]; exact l1
    · rw [if_neg c]; exact l1
/-- add of a text that is in already -/
theorem had_x {a : Addr} {D : SD} {l : List Str} {k : Str} {u : Tok} {Q : Bool → Shared → Prop} (ho : s.heap.get? a = some (sObj "set" D)) (F : TxOk P w D l) (hk : k ∈ l) (hb : l.length < scanBound)
    (q : Q false s) : wpAny (model P w) A (setAddHashed a (.str k u) (hashStr w k)) Q E s := by
  obtain ⟨es, ep, t⟩ := D
  have small : es.size < scanBound := by rw [show es.size = l.length from F.sz]; exact hb
  obtain ⟨e, he, ie⟩ := (F.mem k).mp hk
  unfold setAddHashed setAddHashedIn
  refine wpAny_holding (wpAny_bind (wpAny_setState_of ho (rfl : (sObj "set" (es, ep, t)).data = .set es ep t) F.fit ?_)); dsimp only
  rw [byScan_of rfl small F.el, if_pos rfl]; unfold setAddByScan
  refine wpAny_bind (wpAny_bind (wpAny_rule (wpAny_bind (wpAny_setScan_of (knd := strKind P w) (is_str k u) ho rfl F.fit F.el ?_))))
  cases hr : es.toList.findIdx? (fun e => (strKind P w).is k e.2) with
  | some j => exact wpAny_pure (wpAny_pure q)
  | none => exact absurd ie (by rw [List.findIdx?_eq_none_iff.mp hr e he]; decide)
theorem ts_add {a : Addr} {l : List Str} {k : Str} {u : Tok} {Q : Bool → Shared → Prop} (R : TS P w s.heap a l) (hb : l.length + 1 < scanBound)
    (q : ∀ h' b, Heap.SameBut a s.heap h' → TS P w h' a (if k ∈ l then l else k :: l) → Q b { s with heap := h' }) : wpAny (model P w) A (setAddHashed a (.str k u) (hashStr w k)) Q E s := by
  obtain ⟨D, e, F, r, ld, nd⟩ := R
  by_cases hk : k ∈ l
  · exact had_x e F hk (by omega) (q s.heap false (Heap.SameBut.refl a s.heap) ⟨D, e, by rw [if_pos hk]; exact F, r, ld, by rw [if_pos hk]; exact nd⟩)
  · refine add_x e F hk hb (q _ true (Heap.SameBut.update s.heap a _) ⟨_, get_upd _ e rfl, ?_, addTx_ris r, addTx_led ld, ?_⟩)
    · rw [if_neg hk]; exact add_ok u F
    · rw [if_neg hk]; exact List.nodup_cons.mpr ⟨hk, nd⟩
/-- S.update(it), texts -/
theorem upd_texts {I : Addr} {fp wr : List Addr} {G : Array GenState → Array GenState → Prop} {n : Nat} {Pv : Nat → Value → Prop} {St : Nat → Shared → Prop} {R : Result → Shared → Prop}
    (W : WalksS P w A.in1 I fp wr G n Pv St) {S : Addr} (hS : S ∉ fp) {xs : List Str} (hn : n = xs.length) (hb : xs.length + 1 < scanBound) (hv : ∀ i v, Pv i v → ∃ x t, xs[i]? = some x ∧ v = .str x t) :
    ∀ (k i : Nat) (s : Shared) (l : List Str), n - i = k → i ≤ n → St i s → TS P w s.heap S l → l.length ≤ i → (∀ x, x ∈ l ↔ x ∈ xs.take i) →
      (∀ s' m, Moved (S :: wr) G s s' → TS P w s'.heap S m → m.length ≤ n → (∀ x, x ∈ m ↔ x ∈ xs) → R (.ok (.ret .none)) s') →
      codeAny (model P w) A (.builtin "set.update.loop" ⟨[.ref S, .ref I], []⟩) R s := by
  have sw : S ∉ wr := fun z => hS (W.sub S z)
  have wide : ∀ {s s' : Shared}, Moved wr G s s' → Moved (S :: wr) G s s' := fun m => m.mono fun b z => List.mem_cons_of_mem S z
  intro k
  induction k with
  | zero =>
    intro i s l e1 e2 st hT hl hm q
    obtain rfl : i = n := by omega
    refine codeAny_builtin F.entry_set_update_loop ?_
    rw [Around.under_plainId F.plain_set_update_loop _]
    refine wpAny_bind (m := pyNext (.ref I)) (W.done s _ _ st fun s' mv => ?_)
    refine wpAny_pure (q s' l (wide mv) (hT.at fun o e => mv.heap S o sw e) hl fun x => ?_)
    rw [hm x, List.take_of_length_le (by omega)]
  | succ k ih =>
    intro i s l e1 e2 st hT hl hm q
    have hi : i < n := by omega
    refine codeAny_builtin F.entry_set_update_loop ?_
    rw [Around.under_plainId F.plain_set_update_loop _]
    refine wpAny_bind (m := pyNext (.ref I)) (W.item i s _ _ hi st fun v s1 pv st1 mv => ?_)
    obtain ⟨x, t, ex, rfl⟩ := hv i v pv
    refine wpAny_bind (m := holding [Value.str x t] (setAdd S (.str x t))) (wpAny_holding ?_)
    unfold setAdd
    refine wpAny_holding (wpAny_bind ((strKind P w).pyHash (is_str (P := P) (w := w) x t) ?_))
    refine ts_add (s := { s1 with toks := s1.toks + 1 }) (hT.at fun o e => mv.heap S o sw e) (by omega) fun h' _ sb hT' => ?_
    have back : ∀ b o, b ≠ S → s1.heap.get? b = some o → h'.get? b = some o := fun b o ne e => (sb.2 b ne).trans e
    refine wpAny_pure ⟨plainId_quiet F.plain_set_update_loop _, ih (i + 1) _ _ (by omega) hi (W.frame _ s1 _ _ st1 (Nat.le_succ _) fun b z o e => back b o (fun y => hS (y ▸ z)) e) hT' ?_ (fun y => ?_) fun s2 m mv2 hT2 hl2 hm2 => ?_⟩
    · split
      · omega
      · rw [List.length_cons]; omega
    · rw [List.take_add_one, ex, List.mem_append, ← hm y]
      show _ ↔ _ ∨ y ∈ [x]
      rw [List.mem_singleton]
      split
      · exact ⟨.inl, fun z => z.elim id fun z => z ▸ (by assumption)⟩
      · rw [List.mem_cons]; exact Or.comm
    · exact q s2 m (Moved.trans W.gtrans ((wide mv).then_heap (Nat.le_succ _) fun b o z e => back b o (fun y => z (y ▸ List.mem_cons_self)) e) mv2) hT2 hl2 hm2
end
end St

namespace St
open PySem PySem.Spec PyProof.Rows L2 PySem.Froz
/-- a new set -/
abbrev S0 (w : World) : Obj := { cls := .type "set", dict := none, data := .set #[] 0 (.fresh 0 0 (!w.params.followText "set-order")) }
section
variable {P : Program} {w : World} {A : Around} {E : Value → Shared → Prop} {s : Shared}
set_option maxHeartbeats 8000000 in
/-- set(x), x a list or a tuple at l: its loop told by `loop` -/
theorem set_call {l : Addr} {T : String} {ol itO : Obj} {Res : Heap → Prop} {Q : Value → Shared → Prop} (hh : A.handled = none) (hol : s.heap.get? l = some ol) (hcl : ol.cls = .type T)
    (n1 : isSubtype (.type T) (.type "set") = pure false) (n2 : isSubtype (.type T) (.type "frozenset") = pure false) (n3 : (Value.type T == Value.type "dict") = false)
    (itr : ∀ {A : Around} {E : Value → Shared → Prop} {s1 : Shared} {Q : Value → Shared → Prop}, s1.heap.get? l = some ol → Q (.ref s1.heap.objs.size) { s1 with heap := s1.heap.push itO } → wpAny (model P w) A (pyIter (.ref l)) Q E s1)
    (loop : ∀ (A' : Around) (R : Result → Shared → Prop) (tk : Tok), A'.handled = none →
      (∀ h' tk', Res h' → (∀ b o, s.heap.get? b = some o → h'.get? b = some o) → R (.ok (.ret .none)) { s with heap := h', toks := tk' }) →
      codeAny (model P w) A' (.builtin "set.update.loop" ⟨[.ref s.heap.objs.size, .ref (s.heap.push (S0 w)).objs.size], []⟩) R { s with heap := (s.heap.push (S0 w)).push itO, toks := tk })
    (q : ∀ h' tk, Res h' → (∀ b o, s.heap.get? b = some o → h'.get? b = some o) → Q (.ref s.heap.objs.size) { s with heap := h', toks := tk }) :
    wpAny (model P w) A (call (.type "set") [.ref l]) Q E s := by
  obtain ⟨_, _, mro⟩ := F.called_set.mro; have made := F.called_set.made; have sub := F.called_set.sub; have k1 := F.called_set.notType; have k2 := F.called_set.canCreate; have ct := F.typeCall_set_1 (.ref l)
  refine wpAny_call (codeAny_of_tree ?_); show wpAny _ _ (callAny (.type "set") _) _ _ _
  refine wpAny_pure ⟨Code.quiet_builtin _ (by decide +kernel), codeAny_builtin F.entry_type_call ?_⟩; rw [Around.under_plain (weight_type_call_type "set" [.ref l] []) rfl]
  repeat any_goals first | assumption | wp_step
  refine codeAny_mono (code_set_led1 (.ref l) (E := E) (Q₁ := fun o s1 => o = .ref s.heap.objs.size ∧ s1 = { s with heap := s.heap.push (S0 w) }) ⟨rfl, rfl⟩) fun r s1 hr => ?_
  rcases r with e | (_ | _ | _ | o)
  · exact hr
  · exact hr.elim
  · exact hr.elim
  · exact hr.elim
  · obtain ⟨rfl, rfl⟩ := hr
    have hS : (s.heap.push (S0 w)).get? s.heap.objs.size = some (S0 w) := Heap.get?_push_size _ rfl
    have hT : Shared.TypeIs { s with heap := s.heap.push (S0 w) } (.ref s.heap.objs.size) "set" := ⟨_, hS, rfl⟩
    have il := F.called_set.init.lookup; have ib := F.called_set.init.bind (.ref s.heap.objs.size)
    repeat any_goals first | assumption | wp_step
    refine codeAny_mono (codeAny_call_builtin (R := wants (fun r s2 => r = .none ∧ ∃ h' tk, s2 = { s with heap := h', toks := tk } ∧ Res h' ∧ (∀ b o, s.heap.get? b = some o → h'.get? b = some o)) E) F.called_set.init.plain F.entry_set_init (check_set_init_1 hT ?_)) fun r2 s2 h2 => ?_
    · have e1 : (s.heap.push (S0 w)).get? l = some ol := Heap.get?_push_of_some _ hol
      have hTl : Shared.TypeIs { s with heap := s.heap.push (S0 w) } (.ref l) T := ⟨ol, e1, hcl⟩
      unfold Builtin.«set.__init__» noKeywords Builtin.Frozenset.updateFrom
      generalize hI : pyIter = PI
      obtain ⟨c, d, da, sl⟩ := ol
      dsimp only at hcl
      subst hcl
      wp_walk
      subst hI
      refine itr e1 (wpAny_bind (wpAny_runValue (loop _ _ _ (by simp [hh]) fun h' tk r k => ?_)))
      exact wpAny_pure (wpAny_pure ⟨rfl, h', tk, rfl, r, k⟩)
    · rcases r2 with e | (_ | _ | _ | o)
      · exact h2
      · exact h2.elim
      · exact h2.elim
      · exact h2.elim
      · obtain ⟨rfl, h', tk, rfl, r, k⟩ := h2
        repeat any_goals first | assumption | wp_step
        exact q _ _ r k
end
end St

namespace St
open PySem PySem.Spec PyProof.Rows L2 PySem.Froz
section
variable {P : Program} {w : World} {A : Around} {E : Value → Shared → Prop} {s : Shared}
theorem lkp {h : Heap} {o o' : Obj} {b : Addr} {u : Obj} (e : h.get? b = some u) : ((h.push o).push o').get? b = some u := Heap.get?_push_of_some _ (Heap.get?_push_of_some _ e)
/-- what the loop of the update leaves -/
theorem moved_end {s s' : Shared} {h1 : Heap} {tk : Tok} {S I : Addr} (hS : S = s.heap.objs.size) (hI : s.heap.objs.size ≤ I) (old : ∀ b o, s.heap.get? b = some o → h1.get? b = some o)
    (m : Moved [S, I] (fun a b => b = a) { s with heap := h1, toks := tk } s') : s' = { s with heap := s'.heap, toks := s'.toks } ∧ ∀ b o, s.heap.get? b = some o → s'.heap.get? b = some o := by
  refine ⟨?_, fun b o e => m.heap b o (fun z => ?_) (old b o e)⟩
  · have g := m.gens
    have d := m.drawn
    have os := m.os
    cases s'
    dsimp only at g d os ⊢
    rw [g, d, os]
  · have lt := Heap.lt_size e
    rcases List.mem_cons.mp z with z | z
    · exact absurd lt (by rw [z, hS]; exact Nat.lt_irrefl _)
    · exact absurd lt (by rw [List.mem_singleton.mp z]; exact Nat.not_lt_of_le hI)
theorem places {l : Addr} (lt : l < s.heap.objs.size) : l ≠ (s.heap.push (S0 w)).objs.size ∧ s.heap.objs.size ∉ [(s.heap.push (S0 w)).objs.size, l] ∧ s.heap.objs.size ≤ (s.heap.push (S0 w)).objs.size := by
  rw [Heap.size_push]
  refine ⟨Nat.ne_of_lt (Nat.lt_succ_of_lt lt), fun z => ?_, Nat.le_succ _⟩
  rcases List.mem_cons.mp z with z | z
  · exact absurd z (Nat.ne_of_lt (Nat.lt_succ_self _))
  · exact absurd (List.mem_singleton.mp z) (Nat.ne_of_gt lt)
/-- set(x), texts, x a list or a tuple -/
theorem set_texts {l : Addr} {its : Array Value} {xs : List Str} {Q : Value → Shared → Prop} (hh : A.handled = none) (hl : s.heap.IsList l its ∨ s.heap.IsTuple l its) (hx : StrsAre its.toList xs) (hb : xs.length + 1 < scanBound)
    (q : ∀ h' tk m, TS P w h' s.heap.objs.size m → m.length ≤ xs.length → (∀ x, x ∈ m ↔ x ∈ xs) → (∀ b o, s.heap.get? b = some o → h'.get? b = some o) → Q (.ref s.heap.objs.size) { s with heap := h', toks := tk }) :
    wpAny (model P w) A (call (.type "set") [.ref l]) Q E s := by
  have len : its.size = xs.length := by rw [← Array.length_toList]; exact hx.len_eq
  have val : ∀ i v, its[i]? = some v → ∃ x t, xs[i]? = some x ∧ v = Value.str x t := fun i v e => by
    rw [← Array.getElem?_toList] at e
    have hi : i < xs.length := by rw [← hx.len_eq]; exact (List.getElem?_eq_some_iff.mp e).1
    obtain ⟨t, et⟩ := hx.at (List.getElem?_eq_getElem hi)
    exact ⟨xs[i], t, List.getElem?_eq_getElem hi, Option.some.inj (e.symm.trans et)⟩
  have fin : ∀ (I : Addr), I = (s.heap.push (S0 w)).objs.size → I = s.heap.objs.size + 1 := fun I e => e.trans (Heap.size_push ..)
  have start : ∀ o', TS P w ((s.heap.push (S0 w)).push o') s.heap.objs.size [] := fun o' =>
    ⟨(#[], 0, .fresh 0 0 (!w.params.followText "set-order")), Heap.get?_push_of_some _ (Heap.get?_push_size _ rfl), TxOk.nil rfl, List.Pairwise.nil, by
      show _ ∨ (!w.params.followText "set-order") = true
      cases w.params.followText "set-order" <;> simp, List.nodup_nil⟩
  rcases hl with ⟨ol, e, c, n, d⟩ | ⟨ol, e, c, n, d⟩
  · refine set_call (Res := fun h' => ∃ m, TS P w h' s.heap.objs.size m ∧ m.length ≤ xs.length ∧ ∀ x, x ∈ m ↔ x ∈ xs) hh e c F.sub_list_set F.sub_list_frozenset (by decide) (fun {_ _ s1 _} e1 h => wpAny_pyIter_list (s := s1) ⟨ol, e1, c, n, d⟩ h) (fun A' R tk ha hR => ?_) fun h' tk ⟨m, r1, r2, r3⟩ k => q h' tk m r1 r2 r3 k
    have lt := Heap.lt_size e
    obtain ⟨ne, nin, up⟩ := places (w := w) lt
    refine upd_texts (s := { s with heap := (s.heap.push (S0 w)).push _, toks := tk }) ((Walks.list (A := A'.in1) (by simpa using ha) _ l ne its).toS) (S := s.heap.objs.size) nin len hb val (its.size - 0) 0 [] (by omega) (Nat.zero_le _)
      ⟨⟨_, Heap.get?_push_size _ rfl, rfl, rfl⟩, ⟨ol, lkp e, c, n, d⟩⟩ (start _) (Nat.zero_le _) (fun x => by simp) fun s' m mv r1 r2 r3 => ?_
    obtain ⟨es, k⟩ := moved_end rfl up (fun b o z => lkp z) mv
    rw [es]
    exact hR _ _ ⟨m, r1, by omega, r3⟩ k
  · refine set_call (Res := fun h' => ∃ m, TS P w h' s.heap.objs.size m ∧ m.length ≤ xs.length ∧ ∀ x, x ∈ m ↔ x ∈ xs) hh e c F.sub_tuple_set F.sub_tuple_frozenset (by decide) (fun {_ _ s1 _} e1 h => wpAny_pyIter_tuple (s := s1) ⟨ol, e1, c, n, d⟩ h) (fun A' R tk ha hR => ?_) fun h' tk ⟨m, r1, r2, r3⟩ k => q h' tk m r1 r2 r3 k
    have lt := Heap.lt_size e
    obtain ⟨ne, nin, up⟩ := places (w := w) lt
    refine upd_texts (s := { s with heap := (s.heap.push (S0 w)).push _, toks := tk }) ((Walks.tuple (A := A'.in1) (by simpa using ha) _ l ne its).toS) (S := s.heap.objs.size) nin len hb val (its.size - 0) 0 [] (by omega) (Nat.zero_le _)
      ⟨⟨_, Heap.get?_push_size _ rfl, rfl, rfl⟩, ⟨ol, lkp e, c, n, d⟩⟩ (start _) (Nat.zero_le _) (fun x => by simp) fun s' m mv r1 r2 r3 => ?_
    obtain ⟨es, k⟩ := moved_end rfl up (fun b o z => lkp z) mv
    rw [es]
    exact hR _ _ ⟨m, r1, by omega, r3⟩ k
/-- set(x), ints, x a list or a tuple -/
theorem set_ints {l : Addr} {its : Array Value} {xs : List Int} {Q : Value → Shared → Prop} (hh : A.handled = none) (hl : s.heap.IsList l its ∨ s.heap.IsTuple l its) (hx : IntsAre its.toList xs) (hb : xs.length + 1 < scanBound)
    (q : ∀ h' tk c, SetR w h' s.heap.objs.size (fun j => decide (j ∈ xs)) c → c ≤ xs.length → (∀ b o, s.heap.get? b = some o → h'.get? b = some o) → Q (.ref s.heap.objs.size) { s with heap := h', toks := tk }) :
    wpAny (model P w) A (call (.type "set") [.ref l]) Q E s := by
  have len : its.size = xs.length := by rw [← Array.length_toList]; exact hx.length
  have val : ∀ i v, its[i]? = some v → ∃ k t, xs[i]? = some k ∧ v = Value.int k t := fun i v e => by
    have hi : i < xs.length := by rw [← len]; exact (Array.getElem?_eq_some_iff.mp e).1
    obtain ⟨t, et⟩ := IntsAre.int_at hx i v (by rw [Array.getElem?_toList]; exact e)
    exact ⟨xs[i], t, List.getElem?_eq_getElem hi, by rw [et, List.getD_eq_getElem?_getD, List.getElem?_eq_getElem hi] <;> rfl⟩
  have start : ∀ o', SetR w ((s.heap.push (S0 w)).push o') s.heap.objs.size (fun j => decide (j ∈ xs.take 0)) 0 := fun o' => setR_new_at (Heap.get?_push_of_some _ (Heap.get?_push_size _ rfl))
  rcases hl with ⟨ol, e, c, n, d⟩ | ⟨ol, e, c, n, d⟩
  · refine set_call (Res := fun h' => ∃ c, SetR w h' s.heap.objs.size (fun j => decide (j ∈ xs)) c ∧ c ≤ xs.length) hh e c F.sub_list_set F.sub_list_frozenset (by decide) (fun {_ _ s1 _} e1 h => wpAny_pyIter_list (s := s1) ⟨ol, e1, c, n, d⟩ h) (fun A' R tk ha hR => ?_) fun h' tk ⟨m, r1, r2⟩ k => q h' tk m r1 r2 k
    have lt := Heap.lt_size e
    obtain ⟨ne, nin, up⟩ := places (w := w) lt
    refine set_update_ints (s := { s with heap := (s.heap.push (S0 w)).push _, toks := tk }) ((Walks.list (A := A'.in1) (by simpa using ha) _ l ne its).toS) s.heap.objs.size nin xs len hb val (its.size - 0) 0 (by omega) (Nat.zero_le _)
      ⟨⟨_, Heap.get?_push_size _ rfl, rfl, rfl⟩, ⟨ol, lkp e, c, n, d⟩⟩ ⟨0, Nat.le_refl 0, start _⟩ fun s' c' mv r2 r1 => ?_
    obtain ⟨es, k⟩ := moved_end rfl up (fun b o z => lkp z) mv
    rw [es]
    exact hR _ _ ⟨c', r1, by omega⟩ k
  · refine set_call (Res := fun h' => ∃ c, SetR w h' s.heap.objs.size (fun j => decide (j ∈ xs)) c ∧ c ≤ xs.length) hh e c F.sub_tuple_set F.sub_tuple_frozenset (by decide) (fun {_ _ s1 _} e1 h => wpAny_pyIter_tuple (s := s1) ⟨ol, e1, c, n, d⟩ h) (fun A' R tk ha hR => ?_) fun h' tk ⟨m, r1, r2⟩ k => q h' tk m r1 r2 k
    have lt := Heap.lt_size e
    obtain ⟨ne, nin, up⟩ := places (w := w) lt
    refine set_update_ints (s := { s with heap := (s.heap.push (S0 w)).push _, toks := tk }) ((Walks.tuple (A := A'.in1) (by simpa using ha) _ l ne its).toS) s.heap.objs.size nin xs len hb val (its.size - 0) 0 (by omega) (Nat.zero_le _)
      ⟨⟨_, Heap.get?_push_size _ rfl, rfl, rfl⟩, ⟨ol, lkp e, c, n, d⟩⟩ ⟨0, Nat.le_refl 0, start _⟩ fun s' c' mv r2 r1 => ?_
    obtain ⟨es, k⟩ := moved_end rfl up (fun b o z => lkp z) mv
    rw [es]
    exact hR _ _ ⟨c', r1, by omega⟩ k
end
end St

namespace St
open PySem PySem.Spec PyProof.Rows L2 PySem.Froz
/-- the set of the texts m -/
def SetT (P : Program) (w : World) (a : Addr) (m : List Str) : HO := .ext fun h => TS P w h a m
theorem setT_new {P : Program} {w : World} {H : Hp} {h : Heap} {a : Addr} {m : List Str} (R : TS P w h a m) : ObjOk P w H h a (SetT P w a m) := by
  have ⟨D, e, _⟩ := R
  exact ⟨R, ⟨_, e⟩, fun h1 h2 p k => TS.at p k⟩
section
variable {X : Cx}
/-- what a list or a tuple holds -/
def SqX (K : PySem.W.Frag) (H : Hp) (a : Addr) (xs : List V) : Prop := SqL K H a xs ∨ SqT K H a xs
theorem inv_any {pins : List (Addr × Obj)} {σ : L2.St} {H : Hp} {s : Shared} {a : Addr} {xs : List V} (I : Inv X pins σ H s) (h : SqX X.K H a xs) : ∃ its : List Value, Vals xs its ∧ (s.heap.IsList a its.toArray ∨ s.heap.IsTuple a its.toArray) := by
  rcases h with h | h
  · obtain ⟨its, r, l, _⟩ := I.list h
    exact ⟨its, r, .inl l.isList⟩
  · obtain ⟨its, r, l, _⟩ := I.tuple h
    exact ⟨its, r, .inr l⟩
def rSetT (K : PySem.W.Frag) (P : Program) (w : World) : List V → Hp → VK → Prop := fun xs H Q => ∃ (l : Addr) (ns : List Str), xs = [.ref l] ∧ SqX K H l (ns.map V.str) ∧ ns.length ≤ 1000 ∧
  ∀ a m, H a = none → m.Nodup → m.length ≤ ns.length → (∀ x, x ∈ m ↔ x ∈ ns) → Q (.ref a) (upd H a (SetT P w a m))
theorem cr_setT (hc : X.calm = true) : CallR X (.type "set") (rSetT X.K X.prog X.w) := by
  intro pins s σ H xs us Q I r h
  obtain ⟨l, ns, rfl, hl, hb, q⟩ := h
  rw [Vals.ref1 r]
  obtain ⟨its, rv, hi⟩ := inv_any I hl
  refine set_texts (xs := ns) (I.ok.hd hc) hi (by simpa using rv.strs) (Nat.lt_of_le_of_lt (Nat.succ_le_succ hb) (by decide)) fun h' tk m R ml mm k => ?_
  obtain ⟨D, e, F, a3, a4, nd⟩ := id R
  exact ⟨.ref s.heap.objs.size, _, I.laid (t' := tk) k (Nat.le_refl _) (setT_new R), rfl, q _ m (I.hok.fresh (Nat.le_refl _)) nd ml mm⟩
def rSetI (K : PySem.W.Frag) (w : World) : List V → Hp → VK → Prop := fun xs H Q => ∃ (l : Addr) (ns : List Int), xs = [.ref l] ∧ SqX K H l (ns.map V.int) ∧ ns.length ≤ 1000 ∧
  ∀ a c, H a = none → c ≤ ns.length → Q (.ref a) (upd H a (SetO w a (fun j => decide (j ∈ ns)) c))
theorem cr_setI (hc : X.calm = true) : CallR X (.type "set") (rSetI X.K X.w) := by
  intro pins s σ H xs us Q I r h
  obtain ⟨l, ns, rfl, hl, hb, q⟩ := h
  rw [Vals.ref1 r]
  obtain ⟨its, rv, hi⟩ := inv_any I hl
  refine set_ints (xs := ns) (I.ok.hd hc) hi (by simpa using ints_of_vals rv) (Nat.lt_of_le_of_lt (Nat.succ_le_succ hb) (by decide)) fun h' tk c R cl k => ?_
  exact ⟨.ref s.heap.objs.size, _, I.laid (t' := tk) k (Nat.le_refl _) (setO_new R), rfl, q _ c (I.hok.fresh (Nat.le_refl _)) cl⟩
/-- sorted of a set of texts -/
def rSortT (P : Program) (w : World) : List V → Hp → VK → Prop := fun xs H Q => ∃ (a : Addr) (m : List Str), xs = [.ref a] ∧ H a = some (SetT P w a m) ∧ m.length ≤ 1000 ∧
  ∀ ys p, ys.Perm m → sortedS ys = true → H p = none → Q (.ref p) (upd H p (.lst (ys.map V.str)))
theorem strs_of : ∀ l : List Value, (∀ v ∈ l, ∃ x t, v = Value.str x t) → ∃ xs, StrsAre l xs
  | [], _ => ⟨[], .nil⟩
  | v :: l, h => by
    obtain ⟨x, t, rfl⟩ := h v List.mem_cons_self
    obtain ⟨xs, r⟩ := strs_of l fun u hu => h u (List.mem_cons_of_mem _ hu)
    exact ⟨x :: xs, .cons x t r⟩
theorem strs_vals : ∀ {l : List Value} {xs : List Str}, StrsAre l xs → ∀ x, x ∈ xs ↔ ∃ t, Value.str x t ∈ l
  | _, _, .nil => fun x => by simp
  | _, _, .cons y t r => fun x => by
    rw [List.mem_cons, strs_vals r x]
    constructor
    · rintro (rfl | ⟨u, hu⟩)
      · exact ⟨t, List.mem_cons_self⟩
      · exact ⟨u, List.mem_cons_of_mem _ hu⟩
    · rintro ⟨u, hu⟩
      rcases List.mem_cons.mp hu with z | z
      · cases z; exact .inl rfl
      · exact .inr ⟨u, z⟩
theorem perm_of : ∀ {b a : List Str}, b.Nodup → a.length = b.length → (∀ x, x ∈ b → x ∈ a) → a.Perm b
  | [], a, _, hl, _ => by
    obtain rfl : a = [] := List.length_eq_zero_iff.mp hl
    exact .refl _
  | x :: b, a, nd, hl, h => by
    obtain ⟨n1, n2⟩ := List.nodup_cons.mp nd
    have hx : x ∈ a := h x List.mem_cons_self
    have pe := List.perm_cons_erase hx
    refine pe.trans (.cons x (perm_of n2 ?_ fun y hy => ?_))
    · have := pe.length_eq
      rw [List.length_cons] at this hl
      omega
    · have ne : y ≠ x := fun z => n1 (z ▸ hy)
      exact (List.mem_erase_of_ne ne).mpr (h y (List.mem_cons_of_mem _ hy))
theorem cr_sortT (hc : X.calm = true) : CallR X (.builtin "sorted") (rSortT X.prog X.w) := by
  intro pins s σ H xs us Q I r h
  obtain ⟨a, m, rfl, ha, hb, q⟩ := h
  rw [Vals.ref1 r]
  obtain ⟨⟨es, ep, t⟩, e, F, ris, led, nd⟩ := id (show TS X.prog X.w s.heap a m from (I.hok a _ ha).1)
  have sz : es.size = m.length := F.sz
  have room : es.size < scanBound := by rw [sz]; exact Nat.lt_of_le_of_lt hb (by decide)
  refine Calls.call_function_entry kind_sorted plain_sorted entry_sorted (args_sorted1 _) ?_; unfold Builtin.«sorted»
  refine wpAny_bind (m := checkCount "sorted" 1 1 _) (wpAny_pure (wpAny_bind (collect_set (A := X.A.in1) (I.ok.hd hc) ⟨_, e, rfl, rfl⟩ F.fit room ris led fun s1 vs k1 z1 g1 o1 pm => ?_)))
  have vl : vs.length = m.length := by rw [pm.length_eq, List.length_map, Array.length_toList, sz]
  obtain ⟨ss, hS⟩ := strs_of vs fun v hv => by
    obtain ⟨x, hx, rfl⟩ := List.mem_map.mp (pm.mem_iff.mp hv)
    obtain ⟨⟨k, hk, _⟩, _⟩ := F.el x hx
    obtain ⟨u, hu⟩ := Value.isStrOf_shape (show Value.isStrOf k x.2 = true from hk)
    exact ⟨k, u, hu⟩
  have sm : ss.Perm m := perm_of nd (by rw [← hS.len_eq, vl]) fun x hx => by
    obtain ⟨y, hy, hk⟩ := (F.mem x).mp hx
    obtain ⟨u, hu⟩ := Value.isStrOf_shape (show Value.isStrOf x y.2 = true from hk)
    exact (strs_vals hS x).mpr ⟨u, hu ▸ pm.mem_iff.mpr (List.mem_map.mpr ⟨y, hy, rfl⟩)⟩
  have line : vs.length ≤ sizeLine := by rw [vl, sizeLine_eq]; omega
  refine wpAny_bind (wpAny_newList ?_ line)
  have hoL : (s1.heap.push (seqObj "list" vs.toArray 0)).get? s1.heap.objs.size = some (seqObj "list" vs.toArray 0) := Heap.get?_push_size _ rfl
  refine wpAny_bind (wpAny_holding (wpAny_call_entry PyProof.Rows.slot_list_sort ⟨_, hoL, rfl⟩ PyProof.Rows.entry_list_sort (list_sort_treeKAny strKind_oneLt hoL hS.keysOf (fun v1 v2 rest z => keyKind_strs (by rw [← z]; exact hS)) line fun st hp hs => ⟨_, rfl, ?_⟩) (PyProof.Rows.args_list_sort _)))
  obtain ⟨ys, y1, y2, y3⟩ := sorted_out_str hS hp hs
  obtain ⟨c, hcx⟩ := sortedHeap_at (vs := vs) (out := (arrOf st).map (·.2)) hoL
  have old : ∀ b u, s.heap.get? b = some u → (sortedHeap (s1.heap.push (seqObj "list" vs.toArray 0)) s1.heap.objs.size vs ((arrOf st).map (·.2))).get? b = some u := fun b u eb => by
    have q1 := k1 b u eb
    rw [sortedHeap_old (Nat.ne_of_lt (Heap.lt_size q1)) (by rw [size_push']; exact Nat.lt_succ_of_lt (Heap.lt_size q1))]
    exact Heap.get?_push_of_some _ q1
  have zl : (ys.map V.str).length ≤ sizeLine := by rw [List.length_map, (y2.trans sm).length_eq, sizeLine_eq]; omega
  have hn : H s1.heap.objs.size = none := I.hok.fresh z1
  have J : Inv X pins σ (upd H s1.heap.objs.size (.lst (ys.map V.str))) { s with heap := sortedHeap (s1.heap.push (seqObj "list" vs.toArray 0)) s1.heap.objs.size vs ((arrOf st).map (·.2)), gens := s1.gens, drawn := s1.drawn, toks := s1.toks } :=
    I.call (ch := []) (Un.laid old z1 hn) (I.hok.laid old z1 ⟨zl, ((arrOf st).map (·.2)).toList, c, vals_of_strs y1, hcx⟩) (by rw [g1]; exact I.bare) (fun _ z => nomatch z)
  refine wpAny_pure ⟨_, rfl, .ref s1.heap.objs.size, _, ?_, rfl, q ys _ (y2.trans sm) y3 hn⟩
  cases s1; cases s; dsimp only at o1; subst o1
  exact J
end
end St

namespace Hb
open PySem PySem.Spec PyProof.Rows L2
/-! ### heaps -/
theorem same_new {H : Hp} {p : Addr} (h : H p = none) (o : HO) : Same H (upd H p o) := fun b u q => by
  rw [upd_ne (ne_of_none q h)]
  exact q
/-- a new object -/
theorem new_at {H : Hp} {p : Addr} {o : HO} {G : Hp → Prop} (h : H p = none) (k : ∀ H', Same H H' → H' p = some o → G H') : G (upd H p o) := k _ (same_new h o) upd_same
/-- a new tuple, a new list as the value of a display -/
theorem tup_at {H : Hp} {xs : List V} {Q : VK} (hl : xs.length ≤ 1000) (k : ∀ p H', H p = none → Same H H' → H' p = some (.tup xs) → Q (.ref p) H') : xs.length ≤ sizeLine ∧ ∀ p, H p = none → Q (.ref p) (upd H p (.tup xs)) :=
  ⟨Nat.le_trans hl (by decide), fun p hp => k p _ hp (same_new hp _) upd_same⟩
theorem lst_at {H : Hp} {xs : List V} {Q : VK} (hl : xs.length ≤ 1000) (k : ∀ p H', H p = none → Same H H' → H' p = some (.lst xs) → Q (.ref p) H') : xs.length ≤ sizeLine ∧ ∀ p, H p = none → Q (.ref p) (upd H p (.lst xs)) :=
  ⟨Nat.le_trans hl (by decide), fun p hp => k p _ hp (same_new hp _) upd_same⟩
/-- all but the object at p is as it was -/
def Kept (p : Addr) (H H' : Hp) : Prop := ∀ b o, H b = some o → b ≠ p → H' b = some o
theorem Same.kept {H H' : Hp} {p : Addr} (h : Same H H') : Kept p H H' := fun b o e _ => h b o e
theorem Kept.refl (p : Addr) (H : Hp) : Kept p H H := fun _ _ h _ => h
theorem Kept.trans {p : Addr} {H H1 H2 : Hp} (a : Kept p H H1) (b : Kept p H1 H2) : Kept p H H2 := fun c o h n => b c o (a c o h n) n
theorem kept_upd {p : Addr} {H : Hp} {o : HO} : Kept p H (upd H p o) := fun b u e n => by rw [upd_ne n]; exact e
/-- a tuple stays where the list at p changes -/
theorem Kept.tup {p t : Addr} {H H' : Hp} {xs ys : List V} (k : Kept p H H') (hp : H p = some (.lst ys)) (h : H t = some (.tup xs)) : H' t = some (.tup xs) := k t _ h (ne_of h hp (by intro z; cases z))

/-! ### tests -/
theorem iteD {c A B : Prop} [Decidable c] (h1 : c → A) (h2 : ¬ c → B) : if decide c = true then A else B := by
  by_cases h : c
  · rw [decide_eq_true h]
    exact iteT (h1 h)
  · rw [decide_eq_false h]
    exact iteF (h2 h)
theorem iteN {c A B : Prop} [Decidable c] (h1 : ¬ c → A) (h2 : c → B) : if (!decide c) = true then A else B := by
  by_cases h : c
  · rw [decide_eq_true h]
    exact iteF (h2 h)
  · rw [decide_eq_false h]
    exact iteT (h1 h)
theorem divw {i j : Int} (h0 : 0 < j) (h : j < 2 ^ 100) : CDivW i j := wide_div (b := 100) h0 (by omega) (by decide) (by decide)

/-! ### the defs of a text, by their promises -/
structure Cl (P : Program) (w : World) (K : PySem.W.Frag) (mg : Str → Option Value) (base : Heap) (x : Str) (ps : List Str) (dvs : List V) (lv : Nat) (sp : Sp) : Prop where
  ex : ∃ (f : Addr) (fd : FuncData) (ds : List Value), FnOk P w K mg base CX0 lv f fd ps sp ∧ mg x = some (.ref f) ∧ PySem.W.keepIn K (.ref f) = true ∧ Binds K fd ps ds ∧ Vals dvs ds
section
variable {X : Cx} {ps : List Str} {dvs : List V} {lv : Nat} {sp : Sp} {x : Str} {p pos : Pos} {e : Expr} {es : List Expr} {t : TA}
theorem pe_use (C : Cl X.prog X.w X.K X.mg X.base x ps dvs lv sp) (hr : Room lv X.A) (hg : Gl X x) (ha : PA X (e :: es) t) (hdb : (x == ("__debug__" : Str)) = false := by decide)
    (he : starEach (e :: es) X.env = (false, eval e X.env) :: starEach es X.env := by rfl) (hpl : (backTo pos (starEach es X.env)).any (·.1) = false := by rfl) : PE X (.Call (.Name x p) (e :: es) [] pos) (tCall sp dvs E0 t) := by
  obtain ⟨f, fd, ds, F, hm, hk, hb, hd⟩ := C.ex
  exact pe_call F hr hg hm hk hb hd pass0 ha hdb he hpl
theorem pe_use0 (C : Cl X.prog X.w X.K X.mg X.base x ps dvs lv sp) (hr : Room lv X.A) (hg : Gl X x) (hdb : (x == ("__debug__" : Str)) = false := by decide) : PE X (.Call (.Name x p) [] [] pos) (tCall sp dvs E0 tNil) := by
  obtain ⟨f, fd, ds, F, hm, hk, hb, hd⟩ := C.ex
  exact pe_call0 F hr hg hm hk hb hd pass0 hdb
end
/-- f(k = v, ..) without a value by place -/
structure ClK (P : Program) (w : World) (K : PySem.W.Frag) (mg : Str → Option Value) (base : Heap) (x : Str) (ps : List Str) (n : Nat) (ks : List Str) (gV : List V → List V → List V) (lv : Nat) (sp : Sp) : Prop where
  ex : ∃ (f : Addr) (fd : FuncData) (g : List Value → List Value → List Value), FnOk P w K mg base CX0 lv f fd ps sp ∧ mg x = some (.ref f) ∧ PySem.W.keepIn K (.ref f) = true ∧ KBn K fd ps n ks g gV
section
variable {X : Cx} {ps ks : List Str} {n : Nat} {gV : List V → List V → List V} {lv : Nat} {sp : Sp} {x : Str} {p pos : Pos} {e : Expr} {es : List Expr} {t tk : TA} {kws : List Keyword}
theorem pe_useK0 (C : ClK X.prog X.w X.K X.mg X.base x ps 0 ks gV lv sp) (hr : Room lv X.A) (hg : Gl X x) (hkw : PK X kws tk) (hall : (backToKw pos (keywordEach kws X.env)).all (·.1.isSome) = true := by rfl) (hks : (backToKw pos (keywordEach kws X.env)).filterMap (·.1) = ks := by rfl)
    (hdb : (x == ("__debug__" : Str)) = false := by decide) (hpl : ((backTo pos (starEach [] X.env)).any (·.1) || (backToKw pos (keywordEach kws X.env)).any (·.1.isNone)) = false := by rfl) :
    PE X (.Call (.Name x p) [] kws pos) (tCallN 0 ks.length sp gV E0 tNil tk) := by
  obtain ⟨f, fd, g, F, hm, hk, hb⟩ := C.ex
  refine ⟨fun pins s σ H Q I h => ?_⟩
  refine wpAny_Call_Name_kw (ld_glob I hg hm ?_ hdb)
  refine PySem.W.callWith_KW0 (h₀ := X.base) I.ok.mod.kin hk hall ?_ hpl
  refine thn (hkw.run pos pins s σ H _ I h) fun ws s2 ⟨zs, H2, I2, rz, l1, l2, q2⟩ => ⟨I2.kIn, ?_⟩
  rw [hks]
  exact run_fnN (us := []) (vs := []) F hr hb pass0 I2 .nil rz rfl l2 q2
theorem pe_useK (C : ClK X.prog X.w X.K X.mg X.base x ps n ks gV lv sp) (hr : Room lv X.A) (hg : Gl X x) (ha : PA X (e :: es) t) (hkw : PK X kws tk) (hall : (backToKw pos (keywordEach kws X.env)).all (·.1.isSome) = true := by rfl)
    (hks : (backToKw pos (keywordEach kws X.env)).filterMap (·.1) = ks := by rfl)
    (hdb : (x == ("__debug__" : Str)) = false := by decide) (he : starEach (e :: es) X.env = (false, eval e X.env) :: starEach es X.env := by rfl)
    (hpl : ((backTo pos (starEach (e :: es) X.env)).any (·.1) || (backToKw pos (keywordEach kws X.env)).any (·.1.isNone)) = false := by rfl) :
    PE X (.Call (.Name x p) (e :: es) kws pos) (tCallN n ks.length sp gV E0 t tk) := by
  obtain ⟨f, fd, g, F, hm, hk, hb⟩ := C.ex
  exact pe_callN F hr hg hm hk hb pass0 ha hkw hall hks hdb he hpl
end
/-- positional and keyword arguments that fill all parameters of a def with defaults -/
theorem kb_full {K : PySem.W.Frag} {x qual : Str} {params : Arguments} {body : List Stmt} {scope : Scope} {dvs : List V} {f : Addr} {fd : FuncData} {ps : List Str} (F : FunD K x qual params body scope dvs [] f fd) (n : Nat) (ks : List Str) (g : {α : Type} → List α → List α → List α → List α) (hd : dvs ≠ [])
    (hrel : ∀ {vs ds zs : List V} {us its ws : List Value}, Vals vs us → Vals ds its → Vals zs ws → Vals (g vs ds zs) (g us its ws))
    (h : ∀ (T : Addr) (kV doc pm : Value) (an : Option Addr) (cdv ct : Value) (us its ws : List Value), us.length = n → its.length = dvs.length → ws.length = ks.length →
      ∃ k, bindArgs (PySem.W.fnOf x qual params body scope (.ref T) kV doc pm an cdv ct) ⟨us, ks.zip ws⟩ = seqItems? (.ref T) >>= k ∧ k (some its.toArray) = pure (ps.zip (g us its ws))) :
    ∃ its : List Value, KBn K fd ps n ks (fun us ws => g us its ws) (fun vs zs => g vs dvs zs) := by
  obtain ⟨oc, od, dV, kV, doc, pm, an, cdv, ct, osl, rfl, lk, hcd, hD, hK⟩ := F.ex
  rcases hD with ⟨e, _⟩ | ⟨_, T, o, its, m, rfl, lT, oT, rT⟩
  · exact absurd e hd
  · refine ⟨its, ⟨fun s us ws X l1 l2 => ?_, fun r1 r2 => hrel r1 rT r2⟩⟩
    obtain ⟨k, e1, e2⟩ := h T kV doc pm an cdv ct us its ws l1 rT.length.symm l2
    refine BindsTo.of_looks fun M => ?_
    rw [e1]
    exact looks_items X lT oT (.of_pure e2)
end Hb

namespace St
open PySem PySem.Spec PyProof.Rows L2 PySem.Froz
/-! ### lots: what sorted(set(..)) is -/
def sLt (a b : Str) : Prop := a.cps.toList < b.cps.toList
instance (a b : Str) : Decidable (sLt a b) := inferInstanceAs (Decidable (_ < _))
theorem sLt_irr (a : Str) : ¬ sLt a a := List.lt_irrefl _
theorem sLt_tr {a b c : Str} (h : sLt a b) (k : sLt b c) : sLt a c := List.lt_trans h k
theorem sLt_as {a b : Str} (h : sLt a b) : ¬ sLt b a := fun k => sLt_irr a (sLt_tr h k)
theorem sLt_eq {a b : Str} (h : ¬ sLt a b) (k : ¬ sLt b a) : a = b := by
  have e : a.cps.toList = b.cps.toList := List.le_antisymm (List.not_lt.mp k) (List.not_lt.mp h)
  cases a; cases b
  exact congrArg Str.mk (Array.toList_inj.mp e)
section
variable {α : Type} (lt : α → α → Prop) [DecidableRel lt] [DecidableEq α]
def ins (x : α) : List α → List α
  | [] => [x]
  | y :: r => if x = y then y :: r else if lt x y then x :: y :: r else y :: ins x r
def lotBy : List α → List α
  | [] => []
  | x :: r => ins lt x (lotBy r)
theorem mem_ins {x y : α} : ∀ {l : List α}, y ∈ ins lt x l ↔ y = x ∨ y ∈ l
  | [] => by simp [ins]
  | z :: r => by
    unfold ins
    split
    · rename_i h; subst h; simp
    · split
      · simp
      · rw [List.mem_cons, mem_ins (l := r), List.mem_cons]
        exact ⟨fun h => h.elim (fun h => .inr (.inl h)) fun h => h.elim .inl fun h => .inr (.inr h), fun h => h.elim (fun h => .inr (.inl h)) fun h => h.elim .inl fun h => .inr (.inr h)⟩
theorem mem_lotBy {y : α} : ∀ {l : List α}, y ∈ lotBy lt l ↔ y ∈ l
  | [] => Iff.rfl
  | x :: r => by rw [lotBy, mem_ins, mem_lotBy (l := r), List.mem_cons]
theorem asc_ins (tri : ∀ a b, ¬ lt a b → ¬ a = b → lt b a) (tr : ∀ a b c, lt a b → lt b c → lt a c) {x : α} : ∀ {l : List α}, l.Pairwise lt → (ins lt x l).Pairwise lt
  | [], _ => List.pairwise_singleton _ _
  | y :: r, h => by
    obtain ⟨h1, h2⟩ := List.pairwise_cons.mp h
    unfold ins
    split
    · exact h
    · rename_i ne
      split
      · rename_i lxy
        exact List.pairwise_cons.mpr ⟨fun z hz => (List.mem_cons.mp hz).elim (fun e => e ▸ lxy) fun hz => tr _ _ _ lxy (h1 z hz), h⟩
      · rename_i nl
        refine List.pairwise_cons.mpr ⟨fun z hz => ?_, asc_ins tri tr h2⟩
        rcases (mem_ins lt).mp hz with rfl | hz
        · exact tri _ _ nl ne
        · exact h1 z hz
theorem asc_lotBy (tri : ∀ a b, ¬ lt a b → ¬ a = b → lt b a) (tr : ∀ a b c, lt a b → lt b c → lt a c) : ∀ l : List α, (lotBy lt l).Pairwise lt
  | [] => .nil
  | x :: r => asc_ins lt tri tr (asc_lotBy tri tr r)
theorem len_ins (x : α) : ∀ l : List α, (ins lt x l).length ≤ l.length + 1
  | [] => Nat.le_refl _
  | y :: r => by
    unfold ins
    split
    · exact Nat.le_succ _
    · split
      · exact Nat.le_refl _
      · exact Nat.succ_le_succ (len_ins x r)
theorem len_lotBy : ∀ l : List α, (lotBy lt l).length ≤ l.length
  | [] => Nat.le_refl _
  | x :: r => Nat.le_trans (len_ins lt x _) (Nat.succ_le_succ (len_lotBy r))
theorem asc_eq (irr : ∀ a, ¬ lt a a) (tr : ∀ a b c, lt a b → lt b c → lt a c) : ∀ {l m : List α}, l.Pairwise lt → m.Pairwise lt → (∀ x, x ∈ l ↔ x ∈ m) → l = m
  | [], [], _, _, _ => rfl
  | [], y :: m, _, _, h => absurd ((h y).mpr List.mem_cons_self) (by simp)
  | x :: l, [], _, _, h => absurd ((h x).mp List.mem_cons_self) (by simp)
  | x :: l, y :: m, hl, hm, h => by
    obtain ⟨l1, l2⟩ := List.pairwise_cons.mp hl
    obtain ⟨m1, m2⟩ := List.pairwise_cons.mp hm
    have e : x = y := by
      rcases List.mem_cons.mp ((h x).mp List.mem_cons_self) with z | z
      · exact z
      · rcases List.mem_cons.mp ((h y).mpr List.mem_cons_self) with u | u
        · exact u.symm
        · exact absurd (tr _ _ _ (m1 x z) (l1 y u)) (irr _)
    subst e
    rw [asc_eq irr tr l2 m2 fun z => ?_]
    constructor
    · intro hz
      rcases List.mem_cons.mp ((h z).mp (List.mem_cons_of_mem _ hz)) with e | e
      · subst e; exact absurd (l1 z hz) (irr z)
      · exact e
    · intro hz
      rcases List.mem_cons.mp ((h z).mpr (List.mem_cons_of_mem _ hz)) with e | e
      · subst e; exact absurd (m1 z hz) (irr z)
      · exact e
end
/-- the lot of texts, of ints -/
def lotS (l : List Str) : List Str := lotBy sLt l
def lotI (l : List Int) : List Int := lotBy (· < ·) l
theorem mem_lotS {x : Str} {l : List Str} : x ∈ lotS l ↔ x ∈ l := mem_lotBy _
theorem mem_lotI {x : Int} {l : List Int} : x ∈ lotI l ↔ x ∈ l := mem_lotBy _
theorem asc_lotS (l : List Str) : (lotS l).Pairwise sLt := asc_lotBy _ (fun a b h k => Decidable.byContradiction fun z => k (sLt_eq h z)) (fun _ _ _ => sLt_tr) l
theorem asc_lotI (l : List Int) : (lotI l).Pairwise (· < ·) := asc_lotBy _ (fun a b h k => (Int.lt_trichotomy a b).elim (absurd · h) fun z => z.elim (absurd · k) id) (fun _ _ _ => Int.lt_trans) l
theorem len_lotS (l : List Str) : (lotS l).length ≤ l.length := len_lotBy _ l
theorem len_lotI (l : List Int) : (lotI l).length ≤ l.length := len_lotBy _ l
theorem lotS_eq {ys l : List Str} (h : ys.Pairwise sLt) (m : ∀ x, x ∈ ys ↔ x ∈ l) : ys = lotS l := asc_eq sLt sLt_irr (fun _ _ _ => sLt_tr) h (asc_lotS l) fun x => (m x).trans mem_lotS.symm
theorem lotI_eq {ys l : List Int} (h : ys.Pairwise (· < ·)) (m : ∀ x, x ∈ ys ↔ x ∈ l) : ys = lotI l := asc_eq (· < ·) (fun _ => Int.lt_irrefl _) (fun _ _ _ => Int.lt_trans) h (asc_lotI l) fun x => (m x).trans mem_lotI.symm
theorem lotS_congr {l m : List Str} (h : ∀ x, x ∈ l ↔ x ∈ m) : lotS l = lotS m := lotS_eq (asc_lotS l) fun x => mem_lotS.trans (h x)
theorem lotI_congr {l m : List Int} (h : ∀ x, x ∈ l ↔ x ∈ m) : lotI l = lotI m := lotI_eq (asc_lotI l) fun x => mem_lotI.trans (h x)
theorem lotS_idem (l : List Str) : lotS (lotS l) = lotS l := lotS_congr fun _ => mem_lotS
theorem asc_nodupS {l : List Str} (h : l.Pairwise sLt) : l.Nodup := List.Pairwise.imp (S := (· ≠ ·)) (fun {a b} (k : sLt a b) (z : a = b) => sLt_irr b (z ▸ k)) h
theorem ris_asc : ∀ {l : List Str} {p : Str}, risingS p l = true → (p :: l).Nodup → (p :: l).Pairwise sLt
  | [], p, _, _ => List.pairwise_singleton _ _
  | x :: r, p, h, nd => by
    obtain ⟨h1, h2⟩ := Bool.and_eq_true_iff.mp (show (!ltCps x.cps.toList p.cps.toList && risingS x r) = true from h)
    obtain ⟨n1, n2⟩ := List.nodup_cons.mp nd
    have a := ris_asc h2 n2
    rw [ltCps_eq, Bool.not_eq_true'] at h1
    have nl : ¬ sLt x p := of_decide_eq_false h1
    have lp : sLt p x := Decidable.byContradiction fun z => n1 (by rw [sLt_eq z nl]; exact List.mem_cons_self)
    exact List.pairwise_cons.mpr ⟨fun z hz => (List.mem_cons.mp hz).elim (fun e => e ▸ lp) fun hz => sLt_tr lp ((List.pairwise_cons.mp a).1 z hz), a⟩
theorem sorted_asc {l : List Str} (h : sortedS l = true) (nd : l.Nodup) : l.Pairwise sLt := match l, h, nd with
  | [], _, _ => .nil
  | _ :: _, h, nd => ris_asc h nd
/-! ### the rules of tuple(sorted(set(x))) -/
section
variable {X : Cx}
theorem cr_or {f : Value} {r1 r2 : List V → Hp → VK → Prop} (a : CallR X f r1) (b : CallR X f r2) : CallR X f (fun xs H Q => r1 xs H Q ∨ r2 xs H Q) := fun pins s σ H xs us Q I r h => h.elim (a pins s σ H xs us Q I r) (b pins s σ H xs us Q I r)
@[irreducible] def rSet (K : PySem.W.Frag) (P : Program) (w : World) : List V → Hp → VK → Prop := fun xs H Q => rSetT K P w xs H Q ∨ rSetI K w xs H Q
@[irreducible] def rSorted2 (P : Program) (w : World) : List V → Hp → VK → Prop := fun xs H Q => rSortT P w xs H Q ∨ rSortedSet w xs H Q
theorem cr_set (hc : X.calm = true) : CallR X (.type "set") (rSet X.K X.prog X.w) := by unfold rSet; exact cr_or (cr_setT hc) (cr_setI hc)
theorem cr_sorted2 (hc : X.calm = true) : CallR X (.builtin "sorted") (rSorted2 X.prog X.w) := by unfold rSorted2; exact cr_or (cr_sortT hc) (cr_sortedSet hc)
end
/-- the reading of tuple(sorted(set(x))) -/
theorem rd_lotS {K : PySem.W.Frag} {P : Program} {w : World} {H : Hp} {a : Addr} {ns : List Str} {Q : VK} (h : SqX K H a (ns.map V.str)) (hl : ns.length ≤ 1000) (q : ∀ p H', Same H H' → H' p = some (.tup ((lotS ns).map V.str)) → Q (.ref p) H') :
    rSet K P w [.ref a] H fun u H1 => rSorted2 P w [u] H1 fun z H2 => ∃ p ys, [z] = [V.ref p] ∧ ((SqL K H2 p ys ∧ ∀ l, H2 l = none → Q (.ref l) (upd H2 l (.tup ys))) ∨ (SqT K H2 p ys ∧ Q (.ref p) H2)) := by
  unfold rSet
  refine .inl ⟨a, ns, rfl, h, hl, fun b m hb nd ml mm => ?_⟩
  unfold rSorted2
  refine .inl ⟨b, m, rfl, upd_same, Nat.le_trans ml hl, fun ys p pm so hp => ⟨p, ys.map V.str, rfl, .inl ⟨SqL.of upd_same, fun l hn => ?_⟩⟩⟩
  have e : ys = lotS ns := lotS_eq (sorted_asc so (pm.nodup_iff.mpr nd)) fun x => pm.mem_iff.trans (mm x)
  rw [e] at hn ⊢
  have s1 : Same H (upd H b (SetT P w b m)) := fun c o e => by rw [upd_ne (ne_of_none e hb)]; exact e
  have s2 : Same (upd H b (SetT P w b m)) (upd (upd H b (SetT P w b m)) p (.lst ((lotS ns).map V.str))) := fun c o e => by rw [upd_ne (ne_of_none e hp)]; exact e
  have s3 : Same (upd (upd H b (SetT P w b m)) p (.lst ((lotS ns).map V.str))) (upd (upd (upd H b (SetT P w b m)) p (.lst ((lotS ns).map V.str))) l (.tup ((lotS ns).map V.str))) := fun c o e => by rw [upd_ne (ne_of_none e hn)]; exact e
  exact q l _ (fun c o e => s3 c o (s2 c o (s1 c o e))) upd_same
theorem rd_lotI {K : PySem.W.Frag} {P : Program} {w : World} {H : Hp} {a : Addr} {ns : List Int} {Q : VK} (h : SqX K H a (ns.map V.int)) (hl : ns.length < 64) (q : ∀ p H', Same H H' → H' p = some (.tup ((lotI ns).map V.int)) → Q (.ref p) H') :
    rSet K P w [.ref a] H fun u H1 => rSorted2 P w [u] H1 fun z H2 => ∃ p ys, [z] = [V.ref p] ∧ ((SqL K H2 p ys ∧ ∀ l, H2 l = none → Q (.ref l) (upd H2 l (.tup ys))) ∨ (SqT K H2 p ys ∧ Q (.ref p) H2)) := by
  unfold rSet
  refine .inr ⟨a, ns, rfl, h, Nat.le_trans (Nat.le_of_lt hl) (by decide), fun b c hb cl => ?_⟩
  unfold rSorted2
  refine .inr ⟨b, _, c, rfl, upd_same, Nat.lt_of_le_of_lt cl hl, fun ys p so mm _ hp => ⟨p, ys.map V.int, rfl, .inl ⟨SqL.of upd_same, fun l hn => ?_⟩⟩⟩
  have e : ys = lotI ns := lotI_eq so fun x => (mm x).trans decide_eq_true_iff
  rw [e] at hn ⊢
  have s1 : Same H (upd H b (SetO w b (fun j => decide (j ∈ ns)) c)) := fun d o e => by rw [upd_ne (ne_of_none e hb)]; exact e
  refine q l _ (fun d o e => ?_) upd_same
  have e1 := s1 d o e
  rw [upd_ne (ne_of_none (by rw [upd_ne (ne_of_none e1 hp)]; exact e1) hn), upd_ne (ne_of_none e1 hp)]
  exact e1
end St

/-! own classes of the text: made, their methods, their == -/
namespace Ow
open PySem PySem.Spec PyProof.Rows L2 Hb
/-- a class of the text, made by its __init__'s promise -/
structure Cm (P : Program) (w : World) (K : PySem.W.Frag) (mg : Str → Option Value) (base : Heap) (x : Str) (C : Addr) (ps : List Str) (lv : Nat) (sp : Sp) : Prop where
  ex : ∃ (f : Addr) (fd : FuncData), Mk K C f ∧ FnOk P w K mg base CX0 lv f fd ps sp ∧ mg x = some (.ref C) ∧ Binds K fd ps []
/-- a class made by keywords alone: its parameters behind self in the order of gV -/
structure CmK (P : Program) (w : World) (K : PySem.W.Frag) (mg : Str → Option Value) (base : Heap) (x : Str) (C : Addr) (ps ks : List Str) (gV : List V → List V → List V) (lv : Nat) (sp : Sp) : Prop where
  ex : ∃ (f : Addr) (fd : FuncData) (g : List Value → List Value → List Value), Mk K C f ∧ FnOk P w K mg base CX0 lv f fd ps sp ∧ mg x = some (.ref C) ∧ KBn K fd ps 1 ks g gV
/-- a method of an own class -/
structure Ch (P : Program) (w : World) (K : PySem.W.Frag) (mg : Str → Option Value) (base : Heap) (C : Addr) (m : Str) (ps : List Str) (dvs : List V) (lv : Nat) (sp : Sp) : Prop where
  ex : ∃ (f : Addr) (fd : FuncData) (ds : List Value), Meth K C m f ∧ FnOk P w K mg base CX0 lv f fd ps sp ∧ Binds K fd ps ds ∧ Vals dvs ds
structure ChK (P : Program) (w : World) (K : PySem.W.Frag) (mg : Str → Option Value) (base : Heap) (C : Addr) (m : Str) (ps ks : List Str) (gV : List V → List V → List V) (lv : Nat) (sp : Sp) : Prop where
  ex : ∃ (f : Addr) (fd : FuncData) (g : List Value → List Value → List Value), Meth K C m f ∧ FnOk P w K mg base CX0 lv f fd ps sp ∧ KBn K fd ps 1 ks g gV
section
variable {X : Cx} {C : Addr} {ps ks : List Str} {gV : List V → List V → List V} {dvs : List V} {lv : Nat} {sp : Sp} {x m : Str} {p pos apos : Pos} {e o : Expr} {es : List Expr} {kws : List Keyword} {t tk : TA} {ta : TE}
theorem pe_new (M : Cm X.prog X.w X.K X.mg X.base x C ps lv sp) (hr : Room (lv + 1) X.A) (hg : Gl X x) (ha : PA X (e :: es) t) (hdb : (x == ("__debug__" : Str)) = false := by decide)
    (he : starEach (e :: es) X.env = (false, eval e X.env) :: starEach es X.env := by rfl) (hpl : (backTo pos (starEach es X.env)).any (·.1) = false := by rfl) : PE X (.Call (.Name x p) (e :: es) [] pos) (tMake C sp [] E0 t) := by
  obtain ⟨f, fd, mk, F, hm, hb⟩ := M.ex
  exact pe_make mk F hr hg hm hb .nil pass0 ha hdb he hpl
theorem pe_newK (M : CmK X.prog X.w X.K X.mg X.base x C ps ks gV lv sp) (hr : Room (lv + 1) X.A) (hg : Gl X x) (hkw : PK X kws tk)
    (hall : (backToKw pos (keywordEach kws X.env)).all (·.1.isSome) = true := by rfl) (hks : (backToKw pos (keywordEach kws X.env)).filterMap (·.1) = ks := by rfl) (hdb : (x == ("__debug__" : Str)) = false := by decide)
    (hpl : ((backTo pos (starEach [] X.env)).any (·.1) || (backToKw pos (keywordEach kws X.env)).any (·.1.isNone)) = false := by rfl) : PE X (.Call (.Name x p) [] kws pos) (tMakeK C 0 ks.length sp gV E0 tNil tk) := by
  obtain ⟨f, fd, g, mk, F, hm, hb⟩ := M.ex
  exact pe_makeK0 mk F hr hg hm hb pass0 hkw hall hks hdb hpl
theorem pe_do {pl : Sem Bool} (M : Ch X.prog X.w X.K X.mg X.base C m ps dvs lv sp) (c : Cls X.K C) (hr : Room lv X.A) (ho : PE X o ta) (ha : PA X (e :: es) t)
    (hst : starEach (e :: es) X.env = (false, eval e X.env) :: starEach es X.env := by rfl) (hpl : (backTo pos (starEach es X.env)).any (·.1) = false := by rfl)
    (ht : eval (.Call (.Attribute o m apos) (e :: es) [] pos) X.env = (do
      let v ← eval o X.env
      standAt apos.atName
      let (f, first) ← holding [v] (getMethod v m pl)
      callWith pos f first (backTo pos (starEach (e :: es) X.env)) (backToKw pos (keywordEach [] X.env))) := by rfl) : PE X (.Call (.Attribute o m apos) (e :: es) [] pos) (tMeth C m sp dvs E0 ta t) := by
  obtain ⟨f, fd, ds, hm, F, hb, hd⟩ := M.ex
  exact pe_meth ho c hm F hr hb hd pass0 ha hst hpl ht
theorem pe_do0 {pl : Sem Bool} (M : Ch X.prog X.w X.K X.mg X.base C m ps dvs lv sp) (c : Cls X.K C) (hr : Room lv X.A) (ho : PE X o ta)
    (ht : eval (.Call (.Attribute o m apos) [] [] pos) X.env = (do
      let v ← eval o X.env
      standAt apos.atName
      let (f, first) ← holding [v] (getMethod v m pl)
      callWith pos f first (backTo pos (starEach [] X.env)) (backToKw pos (keywordEach [] X.env))) := by rfl) : PE X (.Call (.Attribute o m apos) [] [] pos) (tMeth C m sp dvs E0 ta tNil) := by
  obtain ⟨f, fd, ds, hm, F, hb, hd⟩ := M.ex
  exact pe_meth0 ho c hm F hr hb hd pass0 ht
/-- o.m(k = v, ..) -/
def tMethK (C : Addr) (m : Str) (n : Nat) (sp : Sp) (gV : List V → List V → List V) (ta : TE) (tk : TA) : TE := fun σ H Q => ta σ H fun x H1 => ∃ a dx fs, x = .ref a ∧ H1 a = some (.ins C dx fs) ∧ fs.lookup m = none ∧ tk σ H1 fun zs H2 => zs.length = n ∧ sp (gV [x] zs) H2 Q E0
theorem pe_doK {pl : Sem Bool} (M : ChK X.prog X.w X.K X.mg X.base C m ps ks gV lv sp) (c : Cls X.K C) (hr : Room lv X.A) (ho : PE X o ta) (hkw : PK X kws tk)
    (hall : (backToKw pos (keywordEach kws X.env)).all (·.1.isSome) = true := by rfl) (hks : (backToKw pos (keywordEach kws X.env)).filterMap (·.1) = ks := by rfl)
    (hpl : ((backTo pos (starEach [] X.env)).any (·.1) || (backToKw pos (keywordEach kws X.env)).any (·.1.isNone)) = false := by rfl)
    (ht : eval (.Call (.Attribute o m apos) [] kws pos) X.env = (do
      let v ← eval o X.env
      standAt apos.atName
      let (f, first) ← holding [v] (getMethod v m pl)
      callWith pos f first (backTo pos (starEach [] X.env)) (backToKw pos (keywordEach kws X.env))) := by rfl) : PE X (.Call (.Attribute o m apos) [] kws pos) (tMethK C m ks.length sp gV ta tk) := by
  obtain ⟨f, fd, g, hm, F, hb⟩ := M.ex
  refine ⟨fun pins s σ H Q I h => ?_⟩
  refine PySem.W.methodCall_KW (pl := pl) (thn (ho.run pins s σ H _ I h) fun u s1 ⟨x, H1, I1, rx, a, dx, fs, ex, ea, l, q⟩ => ?_) ht
  subst ex; obtain rfl : u = Value.ref a := rx
  refine getmeth_ok I1 ea c hm l ?_
  refine PySem.W.callWith_KW0 (first := [.ref a]) (h₀ := X.base) I1.ok.mod.kin hm.kp hall (thn (hkw.run pos pins s1 σ H1 _ I1 q) fun ws s2 ⟨zs, H2, I2, rz, l1, q2⟩ => ⟨I2.kIn, ?_⟩) hpl
  rw [hks]
  exact run_fnN (us := [.ref a]) (vs := [.ref a]) F hr hb pass0 I2 (.cons rfl .nil) rz rfl l1 q2
end
/-! ### == by an own __eq__, whatever it answers -/
def rEqOwn (C : Addr) (sp : Sp) : R2 := fun x y H Q => ∃ a dx fs b, x = .ref a ∧ y = .ref b ∧ H a = some (.ins C dx fs) ∧ ((∃ dy gs, H b = some (.ins C dy gs)) ∨ ∃ xs, H b = some (.lst xs)) ∧ sp [x, y] H (fun v H' => (∃ k, v = .bl k) ∧ Q v H') E0
theorem op_eqOwn {X : Cx} {C : Addr} {ps : List Str} {lv : Nat} {sp : Sp} (M : Ch X.prog X.w X.K X.mg X.base C "__eq__" ps [] lv sp) (kl : PySem.W.subIn X.K (.type "list") (.ref C) = some false) (hr : Room lv X.A) : OpR X (compareOp .Eq) (rEqOwn C sp) := by
  obtain ⟨f, fd, ds, hm, F, hb, hd⟩ := M.ex
  cases hd
  intro pins s σ H x y v u Q I rx ry h
  obtain ⟨a, dx, fs, b, rfl, rfl, ha, hy, q⟩ := h
  cases rx; cases ry
  obtain ⟨mA, J, _⟩ := ins_get I.hok ha
  obtain ⟨od, J, _⟩ := J.look
  obtain ⟨m, hF⟩ := I.fr
  have run : wpAny (model X.prog X.w) X.A (call (.ref f) [.ref a, .ref b]) (PySem.W.CmpBack (EP X pins σ Q)) X.xe s := by
    have hl := F.len _ _ _ _ q
    have bb := hb s [.ref a, .ref b] I.kIn (by simpa using hl)
    refine wpAny_call (codeAny_mono (F.run X.A X.stack s H ⟨[.ref a, .ref b], []⟩ [.ref a, .ref b] [.ref a, .ref b] _ E0 hr I.env0 (by simpa using bb) (.cons rfl (.cons rfl .nil)) q) fun r s' z => ?_)
    rcases r with e | (_ | _ | _ | w)
    · exact pass0 pins σ H s e s' I z
    · exact False.elim z
    · exact False.elim z
    · exact False.elim z
    · obtain ⟨v, H', I', rv, ⟨k, rfl⟩, q'⟩ := I.after z
      obtain rfl : w = Value.bool k := rv
      exact ⟨.bl k, H', I', rfl, q'⟩
  show wpAny (model X.prog X.w) X.A (richCompare .Eq (.ref a) (.ref b)) (EP X pins σ Q) X.xe s
  rcases hy with ⟨dy, gs, hy⟩ | ⟨xs, hy⟩
  · obtain ⟨mB, J', _⟩ := ins_get I.hok hy
    obtain ⟨od', J', _⟩ := J'.look
    exact PySem.W.cmp_K (op := .Eq) (tb := .ref C) hr.units0 hF I.ok.mod.kin J J'.type (by simp [PySem.W.notFirst]) hm.at_ hm.fn run
  · obtain ⟨z, its, n, r, e⟩ := I.hok b _ hy
    exact PySem.W.cmp_K (op := .Eq) (tb := .type "list") hr.units0 hF I.ok.mod.kin J (fun A Q E s' k q => wpAny_typeOf (T := "list") ⟨_, k _ _ e, rfl⟩ q) (by simp [PySem.W.notFirst, kl]) hm.at_ hm.fn run
/-! ### xs[::n], n reckoned as -1 -/
theorem pe_rev {X : Cx} {e st : Expr} {te ts : TE} {p3 pos : Pos} (he : PE X e te) (hs : PE X st ts) (hN : ∀ σ H (Q : VK), Q (.int (-1)) H → ts σ H Q) :
    PE X (.Subscript e (.Slice none none (some st) p3) pos) (fun σ H Q => te σ H fun x H1 => ∃ a xs, x = .ref a ∧ SqL X.K H1 a xs ∧ ∀ p, H1 p = none → Q (.ref p) (upd H1 p (.lst xs.reverse))) := by
  refine ⟨fun pins s σ H Q I h => Subscript_ (thn (he.run pins s σ H _ I h) fun v s1 ⟨x, H1, I1, r1, a, xs, ex, hx, q⟩ => ?_)⟩
  subst ex; cases r1
  refine wpAny_Slice (thn (po_none.run pins s1 σ H1 (fun o H2 => o = none ∧ H2 = H1) I1 ⟨rfl, rfl⟩) fun vl s2 ⟨l, H2, I2, pl, el, e2⟩ => ?_)
  subst el e2
  refine thn (po_none.run pins s2 σ H2 (fun o H3 => o = none ∧ H3 = H2) I2 ⟨rfl, rfl⟩) fun vu s3 ⟨u, H3, I3, pu, eu, e3⟩ => ?_
  subst eu e3
  refine thn ((po_some hs).run pins s3 σ H3 (fun o H4 => o = some (-1) ∧ H4 = H3) I3 (hN σ H3 _ ⟨-1, rfl, rfl, rfl⟩)) fun vs s4 ⟨o, H4, I4, ps, eo, e4⟩ => ?_
  subst eo e4
  have I5 : Inv X pins σ H4 { s4 with heap := s4.heap.push { cls := .type "slice", data := .fields #[vl, vu, vs] } } := I4.kept (t' := s4.toks) fun b ob q => Heap.get?_push_of_some _ q
  obtain ⟨its, r, ht, hz⟩ := I5.list hx
  have hlen := r.length
  show wpAny (model X.prog X.w) X.A (subscriptTail e (.Slice none none (some st) p3) (.ref a) (.ref s4.heap.objs.size)) (EP X pins σ Q) X.xe { s4 with heap := s4.heap.push { cls := .type "slice", data := .fields #[vl, vu, vs] } }
  refine tail_any (ops := [.ref a, .ref s4.heap.objs.size]) ht.isList.typeIs (PySem.slot_list_getitem.lookup) ?_ (by with_unfolding_all rfl)
  refine wpAny_getItem_list_slice ht.isList (Heap.IsSliceOf.new _ vl vu vs) pl pu ps (by decide) ?_ (by rw [List.size_toArray]; omega)
  rw [PySem.W.krv_pick]
  exact ⟨.ref _, _, I5.laid (t' := s4.toks) (o := .lst xs.reverse) (fun b ob q => Heap.get?_push_of_some _ q) (Nat.le_refl _) ⟨by rw [List.length_reverse]; exact hz, _, 0, r.reverse, Heap.get?_push_size _ rfl⟩, rfl, q _ (I5.hok.fresh (Nat.le_refl _))⟩
/-- o.f within a comprehension -/
theorem pe_fldK {X : Cx} {e : Expr} {f : Str} {pos : Pos} {ta : TE} (K : PySem.W.Frag) (he : PE X e ta) (hb : attributeBase e f X.env (eval e X.env) = eval e X.env) (hK : X.K = K := by rfl) : PE X (.Attribute e f pos) (tFld K ta f) := by
  subst hK
  exact pe_fld he hb
end Ow

namespace Ow
open PySem PySem.Spec PyProof.Rows L2 Hb
/-- {k: v}, k a tuple of ints and texts -/
def tDisp1 (tk tv : TE) : TE := fun σ H Q => ∀ p, H p = none → tk σ (upd H p (.dT [])) fun x H1 => tv σ H1 fun y H2 => H2 p = some (.dT []) ∧ ∃ (k : List Key) (b : Addr), x = .ref b ∧ H2 b = some (.tup (k.map kV)) ∧ Q (.ref p) (upd H2 p (.dT [(k, y)]))
theorem pe_disp1T {X : Cx} {k v : Expr} {tk tv : TE} {pos : Pos} (hu : X.A.units + 1 < cLine) (hk : PE X k tk) (hv : PE X v tv) : PE X (.Dict [some k] [v] pos) (tDisp1 tk tv) := by
  refine ⟨fun pins s σ H Q I q => ?_⟩
  have hn := I.hok.fresh (Nat.le_refl s.heap.objs.size)
  have I1 := I.laid (a := s.heap.objs.size) (o := .dT []) (h' := s.heap.push { cls := .type "dict", data := .dict #[] }) (t' := s.toks) (fun _ _ q => Heap.get?_push_of_some _ q) (Nat.le_refl _) (dt_empty s.heap I.big)
  have pr := pairTrees_length [some k] [v] X.env pos rfl rfl
  rw [arm_eval_Dict, zip_pairTrees [some k] [v] X.env pos rfl rfl, dictDisplay_pairs _ (fun z => by rw [z] at pr; cases pr) (by rw [pr]; exact (by decide : (1 : Nat) < 17))]
  refine wpAny_bind (wpAny_standAt (wpAny_bind (wpAny_subDictH (knd := tupleKind (mixKind X.prog X.w)) (Q := fun d s' => wpAny (model X.prog X.w) X.A (pure (Value.ref d)) (EP X pins σ Q) X.xe s') (show X.A.units < cLine by omega) (by rw [pr]; exact (by decide : (1 : Nat) ≤ 15)) ?_)))
  refine thn ((pps_cons hk hv pps_nil).run pins _ σ _ (fun ps H2 => match ps with | [(x, y)] => H2 s.heap.objs.size = some (.dT []) ∧ ∃ (k : List Key) (b : Addr), x = .ref b ∧ H2 b = some (.tup (k.map kV)) ∧ Q (.ref s.heap.objs.size) (upd H2 s.heap.objs.size (.dT [(k, y)])) | _ => False) I1 (q _ hn)) fun ws s2 ⟨ps, H2, I2, rel, q1⟩ => ?_
  match ps, q1 with
  | [(x, y)], q1 => ?_
  obtain ⟨e, kk, b, ex, eb, q2⟩ := q1
  subst ex
  cases rel with
  | @cons _ bb _ _ h t =>
    obtain ⟨b1, b2⟩ := bb
    cases t
    obtain ⟨r1, r2⟩ := h
    cases (show b1 = Value.ref b from r1)
    obtain ⟨z, hd, xs, rel, dd⟩ := dt_of I2.hok e
    cases rel
    refine ⟨[(kk, b, b2)], ⟨rfl, rfl, key_of I2.hok eb, trivial⟩, dd, fun h' tk' dd' hs => wpAny_pure ⟨.ref s.heap.objs.size, _, ?_, rfl, q2⟩⟩
    obtain ⟨qo, es, ep, hq, h2, h3, h4, _, h5⟩ := dd'
    refine d_write I2 (by rw [e]; exact True.intro) hs ⟨qo, hq⟩ ⟨by show 1 ≤ sizeLine; decide, hd, [(kk, b, b2)], .cons ⟨rfl, ?_, r2⟩ .nil, qo, es, ep, hq, h2, h3, h4, h5⟩
    rw [upd_ne (ne_of eb e (fun z => nomatch z))]
    exact eb
end Ow

/-! enumerate of a tuple -/
namespace En
open PySem PySem.Spec PyProof.Rows L2
set_option maxHeartbeats 1000000 in
theorem new_one {v : Value} {it : Obj} {Z : Heap → Prop} (B : Begins v it Z) : Meets (Builtin.«enumerate.__new__» ⟨[.type "enumerate", v], []⟩) (fun _ R z => Z z.heap ∧
    R (.ok (.ret (.ref (z.heap.push it).objs.size))) { z with heap := (z.heap.push it).push { cls := .type "enumerate", data := .fields #[.none, .bool false, .ref z.heap.objs.size, rawInt 0, .none, .none] } }) :=
  .of_wp fun prog w A R z hz => by
    obtain ⟨hp, gs, dr, nt, oss⟩ := z
    obtain ⟨hZ, hR⟩ := hz
    have isub := sub_enumerate
    have begun : ∀ {A' : Around} {E : Value → Shared → Prop} {Q : Value → Shared → Prop}, Q (.ref hp.objs.size) ⟨hp.push it, gs, dr, nt, oss⟩ → wpAny (model prog w) A' (pyIter v) Q E ⟨hp, gs, dr, nt, oss⟩ :=
      fun qq => B.iter prog w _ _ ⟨hp, gs, dr, nt, oss⟩ _ hZ qq
    wp_walk using begun
    refine wpAny_stack_any fun _ => wpAny_pure ?_
    split
    · rename_i cl _ _ _ _ _
      cases (cl == Value.type "enumerate") <;> (wp_walk using begun; exact ⟨_, rfl, hR⟩)
    · wp_walk using begun
      exact ⟨_, rfl, hR⟩
section
variable {prog : Program} {w : World} {A : Around} {E : Value → Shared → Prop} {s : Shared}
theorem call_one {v : Value} {it : Obj} {Z : Heap → Prop} {Q : Value → Shared → Prop} (B : Begins v it Z) (hZ : Z s.heap)
    (fin : ∀ h', IsEnum h' (s.heap.objs.size + 1) s.heap.objs.size 0 .none → h'.get? s.heap.objs.size = some it → (∀ b o, s.heap.get? b = some o → h'.get? b = some o) → Q (.ref (s.heap.objs.size + 1)) { s with heap := h' }) :
    wpAny (model prog w) A (call (.type "enumerate") [v]) Q E s := by
  refine callType_new F.called_enumerate (by decide) (F.typeCall_enumerate_1 v) (F.newCall_enumerate_1 v) (fun self => F.args_object_init_2 self v) F.entry_enumerate_new (new_one B) ⟨hZ, ?_⟩
  have size1 : (s.heap.push it).objs.size = s.heap.objs.size + 1 := Heap.size_push ..
  show _ ∧ _
  rw [size1]
  have at1 : IsEnum ((s.heap.push it).push { cls := .type "enumerate", data := .fields #[.none, .bool false, .ref s.heap.objs.size, rawInt 0, .none, .none] }) (s.heap.objs.size + 1) s.heap.objs.size 0 .none := by
    have z := Heap.get?_push_size (s.heap.push it) (o := { cls := .type "enumerate", data := .fields #[.none, .bool false, .ref s.heap.objs.size, rawInt 0, .none, .none] }) rfl
    rw [size1] at z
    exact z
  exact ⟨⟨_, at1, rfl⟩, fin _ at1 (Heap.get?_push_of_some _ (Heap.get?_push_size _ B.free)) fun b o y => Heap.get?_push_of_some _ (Heap.get?_push_of_some _ y)⟩
end
def IteT (K : PySem.W.Frag) (a : Addr) : It where
  go i H := ∃ (xs : List V) (x : V), SqT K H a xs ∧ xs[i]? = some x
  yld i H v H' := ∃ T x, v = .ref T ∧ H T = none ∧ H' = upd H T (.tup [.int (i : Nat), x]) ∧ ∀ xs, SqT K H a xs → xs[i]? = some x
  stop i H := ∃ xs : List V, SqT K H a xs ∧ xs.length ≤ i
theorem tup_ne {h : Heap} {a it : Addr} {k : Nat} {items : Array Value} (h1 : h.IsTuple a items) (h2 : h.IsTupleIter it a k) : a ≠ it := by
  intro e
  obtain ⟨o, ho, hc, _⟩ := h1
  obtain ⟨o2, ho2, hc2, _⟩ := h2
  rw [← e, ho] at ho2
  cases ho2
  exact absurd (Value.type.inj (hc.symm.trans hc2)) (by decide)
theorem turn_enumT {P : Program} {w : World} {K : PySem.W.Frag} {elts : List Expr} {kk : Nat} {tpos : Pos} (a e it : Addr) :
    Turn P w K (.Tuple elts kk tpos) (IteT K a) [e, it] e (fun i h => (∃ old, IsEnum h e it ((i : Nat) : Int) old) ∧ h.IsTupleIter it a i ∧ e ≠ it) where
  mem := by simp
  obj i h st b hb := by
    obtain ⟨⟨old, hen⟩, ⟨o, ho, _, hd⟩, _⟩ := st
    rcases (show b = e ∨ b = it by simpa using hb) with z | z
    · exact ⟨_, by rw [z]; exact hen, fun v q => by cases (show Data.fields _ = Data.cell v from q)⟩
    · exact ⟨o, by rw [z]; exact ho, fun v q => by rw [hd] at q; cases q⟩
  keep i h h' st k := by
    obtain ⟨⟨old, hen⟩, hti, ne⟩ := st
    exact ⟨⟨old, k e (by simp) _ hen⟩, hti.at fun o q => k it (by simp) o q, ne⟩
  item := by
    intro X hP hw hK hc i pins s σ H E I hf st hg
    subst hP hw hK
    obtain ⟨⟨old, hen⟩, hti, ne⟩ := st
    obtain ⟨xs, x, hq, hx⟩ := hg
    obtain ⟨its, rel, pt, _⟩ := I.tuple hq
    obtain ⟨u, hu, ru⟩ := rel.get hx
    have lt1 : e < s.heap.objs.size := Heap.lt_size hen
    have lt2 : it < s.heap.objs.size := by obtain ⟨_, y, _⟩ := hti; exact Heap.lt_size y
    have ane := tup_ne pt hti
    have elt : ∀ b ∈ [e, it], b < s.heap.objs.size := fun b hb => by
      rcases (show b = e ∨ b = it by simpa using hb) with z | z <;> rw [z] <;> assumption
    have ena : e ≠ a := fun z => by
      obtain ⟨o, ho, hcl, _⟩ := pt
      have q : s.heap.get? e = _ := hen
      rw [z, ho] at q
      cases q
      exact absurd (Value.type.inj hcl) (by decide)
    have hh : X.A.in1.handled = none := I.ok.hd hc
    refine wpAny_pyNext_enum_itemD (Draws.tuple hh it a ane its.toArray) hen ⟨hti, pt⟩ (show i < its.toArray.size by rw [List.size_toArray]; exact (List.getElem?_eq_some_iff.mp hu).1) ne (by simp [ne, ena]) fun y h' tk hy out st' hT hsz hk => ?_
    have hyu : y = u := by
      have : its[i]? = some y := by simpa using hy
      rw [hu] at this
      exact (Option.some.inj this).symm
    subst hyu
    refine ⟨_, rfl, wpAny_letOwnedTupleGo_enum (s := { s with heap := h', toks := tk + 1 }) out fun h2 hen2 sb => ?_⟩
    have t2 : h2.get? s.heap.objs.size = some { cls := .type "tuple", data := .seq #[.int i tk, y] } := (sb.2 _ (Nat.ne_of_gt lt1)).trans hT
    have newT : ObjOk X.prog X.w (upd H s.heap.objs.size (.tup [.int (i : Nat), x])) h2 s.heap.objs.size (.tup [.int (i : Nat), x]) :=
      ⟨by show 2 ≤ sizeLine; decide, [.int i tk, y], .cons ⟨_, rfl⟩ (.cons ru .nil), ⟨_, t2, rfl, _, rfl⟩⟩
    have J : Inv X pins σ (upd H s.heap.objs.size (.tup [.int (i : Nat), x])) { s with heap := h2, toks := tk + 1 } :=
      I.turnedNew (t' := tk + 1) (ch := [e, it]) (fun b ob hb q => (sb.2 b (fun z => hb (by simp [z]))).trans (hk b ob (fun z => hb (by simp [z])) (fun z => hb (by simp [z])) q)) hf (Nat.le_refl _) newT
    refine ⟨.ref s.heap.objs.size, _, J, rfl, ⟨_, x, rfl, I.hok.fresh (Nat.le_refl _), rfl, fun ys hys => by rw [I.tuple_inj hys hq]; exact hx⟩, ⟨⟨y, ?_⟩, st'.1.at fun o q => (sb.2 it (Ne.symm ne)).trans q, ne⟩, fun b hb => ?_⟩
    · rw [show ((i + 1 : Nat) : Int) = (i : Int) + 1 by omega]
      exact hen2
    · rw [upd_ne (Nat.ne_of_lt (elt b hb))]
      exact (hf b hb).1
  done := by
    intro X hP hw hK hc i pins s σ H E I hf st hg
    subst hP hw hK
    obtain ⟨⟨old, hen⟩, hti, ne⟩ := st
    obtain ⟨xs, hq, hx⟩ := hg
    obtain ⟨its, rel, pt, _⟩ := I.tuple hq
    obtain ⟨g0, g1, g2, g3, g4, g5⟩ := hf it (by simp)
    have hl := rel.length
    have hh : X.A.in1.handled = none := I.ok.hd hc
    have T : Draws X.prog X.w X.A.in1 it [it, a] i (fun i v => its.toArray[i]? = some v) (fun k h => k = i ∧ h.IsTupleIter it a i ∧ h.IsTuple a its.toArray) := {
      live := fun _ _ sj => let ⟨o, ho, _⟩ := sj.2.1; ⟨o, ho⟩
      frame := fun _ _ _ sj k => ⟨sj.1, sj.2.1.at fun o q => k it (by simp) o q, sj.2.2.at fun o q => k a (by simp) o q⟩
      item := fun j z Q' E' hj sj hQ => absurd sj.1 (Nat.ne_of_lt hj)
      done := fun z Q' E' sj hE => wpAny_nextOf_tuple_end hh sj.2.1 sj.2.2 (by simp; omega) hE }
    exact wpAny_pyNext_enum_endD T hen ⟨rfl, hti, pt⟩ fun h' eb => ⟨rfl, I.turned (t' := s.toks) (fun b o hb q => eb b o hb q) g0 g1 g3 g4 g5⟩
  self A i s Q E st h := by
    obtain ⟨⟨_, hen⟩, _⟩ := st
    exact wpAny_pyIter_enum hen h
def iEnumT (K : PySem.W.Frag) (ta : TA) : TI := fun σ H R => ta σ H fun vs H1 => ∃ a, vs = [.ref a] ∧ (∃ xs, SqT K H1 a xs) ∧ R (IteT K a) H1
theorem pi_enumT {X : Cx} {e : Expr} {ta : TA} {p pos tpos : Pos} {elts : List Expr} {kk : Nat} (hg : Gl X "enumerate") (hm : X.mg "enumerate" = none) (ha : PA X [e] ta) (hs : starEach [e] X.env = [(false, eval e X.env)] := by rfl) :
    PI X (.Tuple elts kk tpos) (.Call (.Name "enumerate" p) [e] [] pos) (iEnumT X.K ta) := by
  refine ⟨fun pins s σ H R I h => Call_ (ld_blt I hg hm boot_enumerate (PyProof.Rows.callWith_type1 (thn (ha.run pos pins s σ H _ I h) fun us s1 gone => ?_) hs rfl))⟩
  obtain ⟨vs, H1, I1, rel, a, rfl, ⟨xs, hq⟩, qq⟩ := gone
  match us, rel with
  | [_], .cons r .nil =>
    cases r
    obtain ⟨its, _, pt, _⟩ := I1.tuple hq
    refine call_one (begins_tuple a its.toArray) pt fun h' hen hit hk => wpAny_pyIter_enum hen ?_
    have J : Inv X pins σ H1 { s1 with heap := h' } := I1.kept (t' := s1.toks) hk
    refine ⟨s1.heap.objs.size + 1, [s1.heap.objs.size + 1, s1.heap.objs.size], _, _, H1, rfl, J, turn_enumT a (s1.heap.objs.size + 1) s1.heap.objs.size, ⟨⟨.none, hen⟩, ⟨_, hit, rfl, rfl⟩, Nat.succ_ne_self _⟩, fun b hb => ?_, qq⟩
    have le : s1.heap.objs.size ≤ b := by
      rcases (show b = s1.heap.objs.size + 1 ∨ b = s1.heap.objs.size by simpa using hb) with z | z
      · rw [z]; exact Nat.le_succ _
      · rw [z]; exact Nat.le_refl _
    exact I1.fpOk le (I1.hok.fresh le)
/-- for i, x in enumerate(t) -/
theorem for_enumT {K : PySem.W.Frag} {a : Addr} {xs : List V} {g : TG} {tb : TS} {D : Ends} {σ : L2.St} {H : Hp} (Pv : Nat → L2.St → Hp → Prop) (h0 : Pv 0 σ H) (hl : ∀ i σ H, Pv i σ H → SqT K H a xs)
    (hs : ∀ (i : Nat) (x : V) (T : Addr) (σ : L2.St) (H : Hp), xs[i]? = some x → Pv i σ H → H T = none → g (.ref T) σ (upd H T (.tup [.int (i : Nat), x])) fun σ2 H2 => tb { D with nx := Pv (i + 1), ct := Pv (i + 1), bk := D.nx } σ2 H2)
    (hd : ∀ σ H, Pv xs.length σ H → D.nx σ H) :
    ∃ W : Nat → Nat → L2.St → Hp → Prop, (∃ m, W 0 m σ H) ∧ ∀ i m σ H, W i m σ H →
      ((IteT K a).stop i H ∧ D.nx σ H) ∨ ((IteT K a).go i H ∧ ∃ N : L2.St → Hp → Prop, (∀ σ' H', N σ' H' → ∃ m', m' < m ∧ W (i + 1) m' σ' H') ∧ ∀ v H', (IteT K a).yld i H v H' → g v σ H' fun σ2 H2 => tb { D with nx := N, ct := N, bk := D.nx } σ2 H2) := by
  refine ⟨fun i m σ H => m + i = xs.length ∧ Pv i σ H, ⟨xs.length, rfl, h0⟩, fun i m σ H ⟨e, p⟩ => ?_⟩
  have q := hl i σ H p
  cases m with
  | zero => exact .inl ⟨⟨xs, q, by omega⟩, hd σ H (by rw [show xs.length = i by omega]; exact p)⟩
  | succ m =>
    have hlt : i < xs.length := by omega
    refine .inr ⟨⟨xs, xs[i], q, List.getElem?_eq_getElem hlt⟩, Pv (i + 1), fun σ' H' p' => ⟨m, Nat.lt_succ_self m, by omega, p'⟩, fun v H' y => ?_⟩
    obtain ⟨T, x, rfl, hT, rfl, hx⟩ := y
    exact hs i x T σ H (hx xs q) p hT
end En

/-! walks over a list or a tuple alike; comprehensions that keep some items and turn them -/
namespace Sq
open PySem PySem.Spec PyProof.Rows L2 Hb St
/-- what a program changes in place -/
def Mut (o : HO) : Prop := (∃ ys, o = .lst ys) ∨ ∃ k, o = .dT k
/-- all but the lists and dicts is as it was -/
def Fix (H H' : Hp) : Prop := ∀ b o, H b = some o → ¬ Mut o → H' b = some o
theorem Fix.of {H H' : Hp} (s : Same H H') : Fix H H' := fun b o e _ => s b o e
theorem Fix.refl (H : Hp) : Fix H H := fun _ _ e _ => e
theorem Fix.trans {H H1 H2 : Hp} (a : Fix H H1) (b : Fix H1 H2) : Fix H H2 := fun c o e n => b c o (a c o e n) n
theorem Fix.lst {H : Hp} {p : Addr} {xs : List V} {o : HO} (e : H p = some (.lst xs)) : Fix H (upd H p o) := fun b u eb n => by
  rw [upd_ne fun z => n (.inl ⟨xs, by rw [z, e] at eb; exact (Option.some.inj eb).symm⟩)]; exact eb
theorem Fix.dT {H : Hp} {p : Addr} {k : List (List Key × V)} {o : HO} (e : H p = some (.dT k)) : Fix H (upd H p o) := fun b u eb n => by
  rw [upd_ne fun z => n (.inr ⟨k, by rw [z, e] at eb; exact (Option.some.inj eb).symm⟩)]; exact eb
theorem Fix.new {H : Hp} {p : Addr} {o : HO} (e : H p = none) : Fix H (upd H p o) := Fix.of (same_new e o)
theorem Fix.kept {H H' : Hp} {p : Addr} {xs : List V} (e : H p = some (.lst xs)) (k : Kept p H H') : Fix H H' := fun b o eb n => k b o eb fun z => n (.inl ⟨xs, by rw [z, e] at eb; exact (Option.some.inj eb).symm⟩)
theorem tupFix {K : PySem.W.Frag} {H H' : Hp} {a : Addr} {xs : List V} (f : Fix H H') (h : SqT K H a xs) : SqT K H' a xs := by
  rcases h with (e | ⟨o, e⟩) | r
  · exact .inl (.inl (f _ _ e (by rintro (⟨_, z⟩ | ⟨_, z⟩) <;> cases z)))
  · exact .inl (.inr ⟨o, f _ _ e (by rintro (⟨_, z⟩ | ⟨_, z⟩) <;> cases z)⟩)
  · exact .inr r
theorem lstSame {K : PySem.W.Frag} {H H' : Hp} {a : Addr} {xs : List V} (f : Same H H') (h : SqL K H a xs) : SqL K H' a xs := by
  rcases h with (e | ⟨o, e⟩) | r
  · exact .inl (.inl (f _ _ e))
  · exact .inl (.inr ⟨o, f _ _ e⟩)
  · exact .inr r
theorem sqxSame {K : PySem.W.Frag} {H H' : Hp} {a : Addr} {xs : List V} (s : Same H H') (h : SqX K H a xs) : SqX K H' a xs := h.imp (lstSame s) (tupFix (Fix.of s))
theorem SqX.lst {K : PySem.W.Frag} {H : Hp} {a : Addr} {xs : List V} (e : H a = some (.lst xs)) : SqX K H a xs := .inl (SqL.of e)
theorem SqX.tup {K : PySem.W.Frag} {H : Hp} {a : Addr} {xs : List V} (e : H a = some (.tup xs)) : SqX K H a xs := .inr (SqT.of e)
/-- item by item -/
inductive All2 {α β : Type} (R : α → β → Prop) : List α → List β → Prop where
  | nil : All2 R [] []
  | cons {a b as bs} : R a b → All2 R as bs → All2 R (a :: as) (b :: bs)
namespace All2
variable {α β : Type} {R S : α → β → Prop}
theorem len : ∀ {as : List α} {bs : List β}, All2 R as bs → as.length = bs.length
  | _, _, .nil => rfl
  | _, _, .cons _ t => congrArg (· + 1) t.len
theorem imp (f : ∀ a b, R a b → S a b) : ∀ {as : List α} {bs : List β}, All2 R as bs → All2 S as bs
  | _, _, .nil => .nil
  | _, _, .cons h t => .cons (f _ _ h) (imp f t)
theorem app : ∀ {as as' : List α} {bs bs' : List β}, All2 R as bs → All2 R as' bs' → All2 R (as ++ as') (bs ++ bs')
  | _, _, _, _, .nil, h => h
  | _, _, _, _, .cons h t, k => .cons h (app t k)
theorem get : ∀ {as : List α} {bs : List β}, All2 R as bs → ∀ {i : Nat} {a : α}, as[i]? = some a → ∃ b, bs[i]? = some b ∧ R a b
  | _, _, .cons h t, 0, a, e => ⟨_, rfl, by cases e; exact h⟩
  | _, _, .cons h t, i + 1, a, e => t.get (i := i) e
theorem getR : ∀ {as : List α} {bs : List β}, All2 R as bs → ∀ {i : Nat} {b : β}, bs[i]? = some b → ∃ a, as[i]? = some a ∧ R a b
  | _, _, .cons h t, 0, a, e => ⟨_, rfl, by cases e; exact h⟩
  | _, _, .cons h t, i + 1, a, e => t.getR (i := i) e
theorem map_eq {f : β → α} (h : ∀ a b, R a b → a = f b) : ∀ {as : List α} {bs : List β}, All2 R as bs → as = bs.map f
  | _, _, .nil => rfl
  | _, _, .cons r t => by rw [List.map_cons, h _ _ r, map_eq h t]
theorem of_map {f : β → α} (h : ∀ b, R (f b) b) : ∀ bs : List β, All2 R (bs.map f) bs
  | [] => .nil
  | b :: bs => .cons (h b) (of_map h bs)
theorem drop : ∀ {as : List α} {bs : List β} (n : Nat), All2 R as bs → All2 R (as.drop n) (bs.drop n)
  | _, _, 0, h => h
  | _, _, n + 1, .nil => .nil
  | _, _, n + 1, .cons _ t => drop n t
theorem take : ∀ {as : List α} {bs : List β} (n : Nat), All2 R as bs → All2 R (as.take n) (bs.take n)
  | _, _, 0, h => .nil
  | _, _, n + 1, .nil => .nil
  | _, _, n + 1, .cons h t => .cons h (take n t)
end All2
/-- a walk J over the items xs of the object at a; S: it stands -/
structure Wk (J : It) (a : Addr) (S : Hp → Prop) (xs : List V) : Prop where
  go : ∀ i H, i < xs.length → S H → J.go i H
  stop : ∀ H, S H → J.stop xs.length H
  yld : ∀ i H v H', i < xs.length → S H → J.yld i H v H' → H' = H ∧ xs[i]? = some v
  keep : ∀ {H H' : Hp}, (∀ o, H a = some o → H' a = some o) → S H → S H'
theorem wk_list {K : PySem.W.Frag} {a : Addr} {xs : List V} : Wk (Itl K a) a (fun H => SqL K H a xs) xs where
  go := fun i H hi s => ⟨xs, xs[i], s, List.getElem?_eq_getElem hi⟩
  stop := fun H s => ⟨xs, s, Nat.le_refl _⟩
  yld := fun i H v H' _ s y => ⟨y.1, y.2 xs s⟩
  keep := fun k s => by
    rcases s with (e | ⟨o, e⟩) | r
    · exact .inl (.inl (k _ e))
    · exact .inl (.inr ⟨o, k _ e⟩)
    · exact .inr r
theorem wk_tup {K : PySem.W.Frag} {a : Addr} {xs : List V} : Wk (Itt K a) a (fun H => SqT K H a xs) xs where
  go := fun i H hi s => ⟨xs, xs[i], s, List.getElem?_eq_getElem hi⟩
  stop := fun H s => ⟨xs, s, Nat.le_refl _⟩
  yld := fun i H v H' _ s y => ⟨y.1, y.2 xs s⟩
  keep := fun k s => by
    rcases s with (e | ⟨o, e⟩) | r
    · exact .inl (.inl (k _ e))
    · exact .inl (.inr ⟨o, k _ e⟩)
    · exact .inr r
def iSeq (K : PySem.W.Frag) (tl : TE) : TI := fun σ H R => tl σ H fun x H1 => ∃ a xs, x = .ref a ∧ SqX K H1 a xs ∧ ∀ (J : It) (S : Hp → Prop), Wk J a S xs → S H1 → R J H1
theorem pi_seq {X : Cx} {tg l : Expr} {tl : TE} (hl : PE X l tl) : PI X tg l (iSeq X.K tl) := by
  refine ⟨fun pins s σ H R I h => ?_⟩
  have both : PI X tg l (fun σ H R => iList X.K tl σ H R ∨ iTup X.K tl σ H R) := ⟨fun pins s σ H R I h => h.elim ((pi_list hl).run pins s σ H R I) ((pi_tup hl).run pins s σ H R I)⟩
  refine thn (hl.run pins s σ H _ I h) fun v s1 ⟨x, H1, I1, r1, a, xs, ex, hx, q⟩ => ?_
  subst ex; cases r1
  rcases hx with hx | hx
  · obtain ⟨its, rv, p, hz⟩ := I1.list hx
    refine wpAny_pyIter_list p.isList ⟨s1.heap.objs.size, [s1.heap.objs.size], _, _, H1, rfl, I1.kept (t' := s1.toks) fun b o e => Heap.get?_push_of_some _ e, turn_list a _, ⟨_, Heap.get?_push_size _ rfl, rfl, rfl⟩, fun b hb => ?_, q _ _ wk_list hx⟩
    obtain rfl : b = s1.heap.objs.size := by simpa using hb
    exact I1.fpOk (Nat.le_refl _) (I1.hok.fresh (Nat.le_refl _))
  · obtain ⟨its, rv, p, hz⟩ := I1.tuple hx
    refine wpAny_pyIter_tuple (show s1.heap.IsTuple a its.toArray from p) ⟨s1.heap.objs.size, [s1.heap.objs.size], _, _, H1, rfl, I1.kept (t' := s1.toks) fun b o e => Heap.get?_push_of_some _ e, turn_tuple a _, ⟨_, Heap.get?_push_size _ rfl, rfl, rfl⟩, fun b hb => ?_, q _ _ wk_tup hx⟩
    obtain rfl : b = s1.heap.objs.size := by simpa using hb
    exact I1.fpOk (Nat.le_refl _) (I1.hok.fresh (Nat.le_refl _))
/-! ### comprehensions -/
section
variable {α : Type}
/-- where a comprehension stands: H1 as it began, D its list, ds its items' data -/
structure MF (H1 : Hp) (D : Addr) (ds : List α) (keep : α → Bool) (Rel : Hp → V → α → Prop) (i : Nat) (H : Hp) : Prop where
  same : Same H1 H
  acc : ∃ ys, H D = some (.lst ys) ∧ All2 (Rel H) ys ((ds.take i).filter keep)
variable {H1 : Hp} {D : Addr} {ds : List α} {keep : α → Bool} {Rel : Hp → V → α → Prop} {i : Nat} {H : Hp}
theorem mf_yes (m : MF H1 D ds keep Rel i H) {H' : Hp} {d : α} {y : V} (hd : H1 D = none) (mono : ∀ H H' y d, Fix H H' → Rel H y d → Rel H' y d) (hi : ds[i]? = some d) (hl : ds.length ≤ 100000) (s : Same H H') (k : keep d = true) (r : Rel H' y d) :
    ∃ acc, H' D = some (.lst acc) ∧ acc.length < sizeLine ∧ MF H1 D ds keep Rel (i + 1) (upd H' D (.lst (acc ++ [y]))) := by
  obtain ⟨s1, ys, e, a⟩ := m
  have e' := s _ _ e
  have fx : Fix H' (upd H' D (.lst (ys ++ [y]))) := Fix.lst e'
  refine ⟨ys, e', ?_, fun b o eb => ?_, ys ++ [y], upd_same, ?_⟩
  · have := a.len
    have h2 := List.length_filter_le keep (ds.take i)
    have h3 : (ds.take i).length ≤ ds.length := by rw [List.length_take]; exact Nat.min_le_right _ _
    rw [sizeLine_eq]; omega
  · rw [upd_ne (ne_of_none eb hd)]; exact s b o (s1 b o eb)
  · rw [List.take_add_one, hi, List.filter_append]
    show All2 _ _ (_ ++ [d].filter keep)
    rw [List.filter_cons_of_pos k]
    exact (a.imp fun _ _ q => mono _ _ _ _ ((Fix.of s).trans fx) q).app (.cons (mono _ _ _ _ fx r) .nil)
theorem mf_no (m : MF H1 D ds keep Rel i H) {H' : Hp} {d : α} (mono : ∀ H H' y d, Fix H H' → Rel H y d → Rel H' y d) (hi : ds[i]? = some d) (s : Same H H') (k : keep d = false) : MF H1 D ds keep Rel (i + 1) H' := by
  obtain ⟨s1, ys, e, a⟩ := m
  refine ⟨s1.trans s, ys, s _ _ e, ?_⟩
  rw [List.take_add_one, hi, List.filter_append]
  show All2 _ _ (_ ++ [d].filter keep)
  rw [List.filter_cons_of_neg (by rw [k]; exact Bool.false_ne_true), List.filter_nil, List.append_nil]
  exact a.imp fun _ _ q => mono _ _ _ _ (Fix.of s) q
/-- a comprehension over the walk J -/
theorem lc_mf {J : It} {a : Addr} {S : Hp → Prop} {xs : List V} {ds : List α} (W : Wk J a S xs) (keep : α → Bool) (Rel : Hp → V → α → Prop) {g : TG} {tt : TT} {te : TE} {vs : List Nat} {σ : L2.St} {H1 : Hp} {D : Addr} {Qd : Hp → Prop} (hS : S H1) (hD : H1 D = none)
    (hlen : xs.length = ds.length)
    (hs : ∀ i x d H, xs[i]? = some x → ds[i]? = some d → Same H1 H → MF H1 D ds keep Rel i H → g x (wipe σ vs) H fun σ2 H2 => wipe σ2 vs = wipe σ vs ∧ tt σ2 H2 fun b H3 =>
      if b = true then te σ2 H3 fun y H4 => ∃ acc, H4 D = some (.lst acc) ∧ acc.length < sizeLine ∧ MF H1 D ds keep Rel (i + 1) (upd H4 D (.lst (acc ++ [y]))) else MF H1 D ds keep Rel (i + 1) H3)
    (hd : ∀ H ys, Same H1 H → H D = some (.lst ys) → All2 (Rel H) ys (ds.filter keep) → Qd H) :
    ∃ W : Nat → Nat → Hp → Prop, (∃ m, W 0 m (upd H1 D (.lst []))) ∧ ∀ i m H, W i m H →
      (J.stop i H ∧ Qd H) ∨ (J.go i H ∧ ∃ Nx : Hp → Prop, (∀ H', Nx H' → ∃ m', m' < m ∧ W (i + 1) m' H') ∧ ∀ v H', J.yld i H v H' → g v (wipe σ vs) H' fun σ2 H2 => wipe σ2 vs = wipe σ vs ∧ tt σ2 H2 fun b H3 =>
        if b = true then te σ2 H3 fun y H4 => ∃ acc, H4 D = some (.lst acc) ∧ acc.length < sizeLine ∧ Nx (upd H4 D (.lst (acc ++ [y]))) else Nx H3) := by
  have stand : ∀ {H}, Same H1 H → S H := fun {H} s => W.keep (fun o e => s _ _ e) hS
  refine ⟨fun i m H => m + i = xs.length ∧ MF H1 D ds keep Rel i H, ⟨xs.length, rfl, fun b o e => by rw [upd_ne (ne_of_none e hD)]; exact e, [], upd_same, .nil⟩, fun i m H ⟨e, p⟩ => ?_⟩
  cases m with
  | zero =>
    obtain rfl : i = xs.length := by omega
    obtain ⟨ys, ey, al⟩ := p.acc
    refine .inl ⟨W.stop H (stand p.same), hd H ys p.same ey ?_⟩
    rw [List.take_of_length_le (by omega)] at al
    exact al
  | succ m =>
    have hi : i < xs.length := by omega
    refine .inr ⟨W.go i H hi (stand p.same), MF H1 D ds keep Rel (i + 1), fun H' p' => ⟨m, Nat.lt_succ_self m, by omega, p'⟩, fun v H' y => ?_⟩
    obtain ⟨rfl, ev⟩ := W.yld i H v H' hi (stand p.same) y
    exact hs i v ds[i] H' ev (List.getElem?_eq_getElem (by omega)) p.same p
end
end Sq
namespace Sq
open PySem PySem.Spec PyProof.Rows L2 Hb St
theorem wk_range {lo : Int} {n : Nat} {a : Addr} : Wk (Itr lo n) a (fun _ => True) ((List.range n).map fun k => V.int (lo + (k : Nat))) where
  go := fun i H hi _ => by
    show i < n
    simpa using hi
  stop := fun H _ => by show n ≤ _; simp
  yld := fun i H v H' hi _ y => by
    obtain ⟨e, ev⟩ := (show H' = H ∧ v = .int (lo + (i : Nat)) from y)
    have hn : i < n := by simpa using hi
    exact ⟨e, by rw [ev, List.getElem?_map, List.getElem?_range hn] <;> rfl⟩
  keep := fun _ _ => trivial
/-- a for over the walk J -/
theorem for_sq {J : It} {a : Addr} {S : Hp → Prop} {xs : List V} (W : Wk J a S xs) {g : TG} {tb : TS} {D : Ends} {σ : L2.St} {H : Hp} (Pv : Nat → L2.St → Hp → Prop) (h0 : Pv 0 σ H) (hk : ∀ i σ H, Pv i σ H → S H)
    (hs : ∀ i σ H x, xs[i]? = some x → Pv i σ H → g x σ H fun σ2 H2 => tb { D with nx := Pv (i + 1), ct := Pv (i + 1), bk := D.nx } σ2 H2) (hd : ∀ σ H, Pv xs.length σ H → D.nx σ H) :
    ∃ W : Nat → Nat → L2.St → Hp → Prop, (∃ m, W 0 m σ H) ∧ ∀ i m σ H, W i m σ H →
      (J.stop i H ∧ D.nx σ H) ∨ (J.go i H ∧ ∃ N : L2.St → Hp → Prop, (∀ σ' H', N σ' H' → ∃ m', m' < m ∧ W (i + 1) m' σ' H') ∧ ∀ v H', J.yld i H v H' → g v σ H' fun σ2 H2 => tb { D with nx := N, ct := N, bk := D.nx } σ2 H2) := by
  refine ⟨fun i m σ H => m + i = xs.length ∧ Pv i σ H, ⟨xs.length, rfl, h0⟩, fun i m σ H ⟨e, p⟩ => ?_⟩
  cases m with
  | zero =>
    obtain rfl : i = xs.length := by omega
    exact .inl ⟨W.stop H (hk _ _ _ p), hd σ H p⟩
  | succ m =>
    refine .inr ⟨W.go i H (by omega) (hk _ _ _ p), Pv (i + 1), fun σ' H' p' => ⟨m, Nat.lt_succ_self m, by omega, p'⟩, fun v H' y => ?_⟩
    obtain ⟨rfl, ev⟩ := W.yld i H v H' (by omega) (hk _ _ _ p) y
    exact hs i σ H' v ev p
/-- a walk of enumerate -/
structure En (J : It) (a : Addr) (S : Hp → Prop) (xs : List V) : Prop where
  go : ∀ i H, i < xs.length → S H → J.go i H
  stop : ∀ H, S H → J.stop xs.length H
  yld : ∀ i H v H', S H → J.yld i H v H' → ∃ T x, v = .ref T ∧ H T = none ∧ H' = upd H T (.tup [.int (i : Nat), x]) ∧ xs[i]? = some x
theorem en_list {K : PySem.W.Frag} {a : Addr} {xs : List V} : En (Ite K a) a (fun H => SqL K H a xs) xs where
  go := fun i H hi s => ⟨xs, xs[i], s, List.getElem?_eq_getElem hi⟩
  stop := fun H s => ⟨xs, s, Nat.le_refl _⟩
  yld := fun i H v H' s ⟨T, x, e1, e2, e3, f⟩ => ⟨T, x, e1, e2, e3, f xs s⟩
theorem en_tup {K : PySem.W.Frag} {a : Addr} {xs : List V} : En (En.IteT K a) a (fun H => SqT K H a xs) xs where
  go := fun i H hi s => ⟨xs, xs[i], s, List.getElem?_eq_getElem hi⟩
  stop := fun H s => ⟨xs, s, Nat.le_refl _⟩
  yld := fun i H v H' s ⟨T, x, e1, e2, e3, f⟩ => ⟨T, x, e1, e2, e3, f xs s⟩
theorem for_en {J : It} {a : Addr} {S : Hp → Prop} {xs : List V} (W : En J a S xs) {g : TG} {tb : TS} {D : Ends} {σ : L2.St} {H : Hp} (Pv : Nat → L2.St → Hp → Prop) (h0 : Pv 0 σ H) (hk : ∀ i σ H, Pv i σ H → S H)
    (hs : ∀ i σ H x T, xs[i]? = some x → Pv i σ H → H T = none → g (.ref T) σ (upd H T (.tup [.int (i : Nat), x])) fun σ2 H2 => tb { D with nx := Pv (i + 1), ct := Pv (i + 1), bk := D.nx } σ2 H2) (hd : ∀ σ H, Pv xs.length σ H → D.nx σ H) :
    ∃ W : Nat → Nat → L2.St → Hp → Prop, (∃ m, W 0 m σ H) ∧ ∀ i m σ H, W i m σ H →
      (J.stop i H ∧ D.nx σ H) ∨ (J.go i H ∧ ∃ N : L2.St → Hp → Prop, (∀ σ' H', N σ' H' → ∃ m', m' < m ∧ W (i + 1) m' σ' H') ∧ ∀ v H', J.yld i H v H' → g v σ H' fun σ2 H2 => tb { D with nx := N, ct := N, bk := D.nx } σ2 H2) := by
  refine ⟨fun i m σ H => m + i = xs.length ∧ Pv i σ H, ⟨xs.length, rfl, h0⟩, fun i m σ H ⟨e, p⟩ => ?_⟩
  cases m with
  | zero =>
    obtain rfl : i = xs.length := by omega
    exact .inl ⟨W.stop H (hk _ _ _ p), hd σ H p⟩
  | succ m =>
    refine .inr ⟨W.go i H (by omega) (hk _ _ _ p), Pv (i + 1), fun σ' H' p' => ⟨m, Nat.lt_succ_self m, by omega, p'⟩, fun v H' y => ?_⟩
    obtain ⟨T, x, rfl, hT, rfl, ex⟩ := W.yld i H v H' (hk _ _ _ p) y
    exact hs i σ H x T ex p hT
theorem pi_or {X : Cx} {tg it : Expr} {w1 w2 : TI} (h1 : PI X tg it w1) (h2 : PI X tg it w2) : PI X tg it (fun σ H R => w1 σ H R ∨ w2 σ H R) := ⟨fun pins s σ H R I h => h.elim (h1.run pins s σ H R I) (h2.run pins s σ H R I)⟩
def rTupE (K : PySem.W.Frag) : List V → Hp → VK → Prop := fun xs H Q => ∃ p ys, xs = [V.ref p] ∧ ((SqL K H p ys ∧ ∀ l, H l = none → Q (.ref l) (upd H l (.tup ys))) ∨ (SqT K H p ys ∧ Q (.ref p) H))
theorem call_tupE {X : Cx} : CallR X (.type "tuple") (rTupE X.K) := call_tuple_of
end Sq

/-! comprehensions over zip and enumerate, dict comprehensions, max(.., default=..), D.get(x) of a dict of the text -/
namespace Zp
open PySem PySem.Spec PyProof.Rows L2 Hb St Sq RZ
/-- a walk of new pairs: where S stands, at the i-th turn the i-th of ps -/
structure Wp (J : It) (S : Hp → Prop) (ps : List (V × V)) : Prop where
  go : ∀ i H, i < ps.length → S H → J.go i H
  stop : ∀ H, S H → J.stop ps.length H
  yld : ∀ i H v H', i < ps.length → S H → J.yld i H v H' → ∃ T p, v = .ref T ∧ H T = none ∧ H' = upd H T (.tup [p.1, p.2]) ∧ ps[i]? = some p
  keep : ∀ {H H' : Hp}, Same H H' → S H → S H'
theorem zip_at {xs ys : List V} {i : Nat} {x y : V} (hx : xs[i]? = some x) (hy : ys[i]? = some y) : (xs.zip ys)[i]? = some (x, y) := by
  rw [List.getElem?_zip_eq_some]
  exact ⟨hx, hy⟩
theorem wp_tup {K : PySem.W.Frag} {a b : Addr} {xs ys : List V} : Wp (ItzT K a b) (fun H => SqT K H a xs ∧ SqT K H b ys) (xs.zip ys) where
  go := fun i H hi s => by
    rw [List.length_zip] at hi
    exact ⟨xs, ys, xs[i]'(by omega), ys[i]'(by omega), s.1, s.2, List.getElem?_eq_getElem _, List.getElem?_eq_getElem _⟩
  stop := fun H s => ⟨xs, ys, s.1, s.2, by rw [List.length_zip]; omega⟩
  yld := fun i H v H' hi s ⟨T, x, y, e1, e2, e3, f, g⟩ => ⟨T, (x, y), e1, e2, e3, zip_at (f xs s.1) (g ys s.2)⟩
  keep := fun k s => ⟨tupFix (Fix.of k) s.1, tupFix (Fix.of k) s.2⟩
theorem wp_lst {K : PySem.W.Frag} {a b : Addr} {xs ys : List V} : Wp (Itz K a b) (fun H => SqL K H a xs ∧ SqL K H b ys) (xs.zip ys) where
  go := fun i H hi s => by
    rw [List.length_zip] at hi
    exact ⟨xs, ys, xs[i]'(by omega), ys[i]'(by omega), s.1, s.2, List.getElem?_eq_getElem _, List.getElem?_eq_getElem _⟩
  stop := fun H s => ⟨xs, ys, s.1, s.2, by rw [List.length_zip]; omega⟩
  yld := fun i H v H' hi s ⟨T, x, y, e1, e2, e3, f, g⟩ => ⟨T, (x, y), e1, e2, e3, zip_at (f xs s.1) (g ys s.2)⟩
  keep := fun k s => ⟨lstSame k s.1, lstSame k s.2⟩
section
variable {α : Type}
/-- a comprehension over a walk of pairs -/
theorem lc_mp {J : It} {S : Hp → Prop} {ps : List (V × V)} {ds : List α} (W : Wp J S ps) (keep : α → Bool) (Rel : Hp → V → α → Prop) {g : TG} {tt : TT} {te : TE} {vs : List Nat} {σ : L2.St} {H1 : Hp} {D : Addr} {Qd : Hp → Prop} (hS : S H1) (hD : H1 D = none)
    (hlen : ps.length = ds.length) (mono : ∀ H H' y d, Fix H H' → Rel H y d → Rel H' y d)
    (hs : ∀ i T p d H, ps[i]? = some p → ds[i]? = some d → Same H1 H → H T = some (.tup [p.1, p.2]) → MF H1 D ds keep Rel i H → g (.ref T) (wipe σ vs) H fun σ2 H2 => wipe σ2 vs = wipe σ vs ∧ tt σ2 H2 fun b H3 =>
      if b = true then te σ2 H3 fun y H4 => ∃ acc, H4 D = some (.lst acc) ∧ acc.length < sizeLine ∧ MF H1 D ds keep Rel (i + 1) (upd H4 D (.lst (acc ++ [y]))) else MF H1 D ds keep Rel (i + 1) H3)
    (hd : ∀ H ys, Same H1 H → H D = some (.lst ys) → All2 (Rel H) ys (ds.filter keep) → Qd H) :
    ∃ W : Nat → Nat → Hp → Prop, (∃ m, W 0 m (upd H1 D (.lst []))) ∧ ∀ i m H, W i m H →
      (J.stop i H ∧ Qd H) ∨ (J.go i H ∧ ∃ Nx : Hp → Prop, (∀ H', Nx H' → ∃ m', m' < m ∧ W (i + 1) m' H') ∧ ∀ v H', J.yld i H v H' → g v (wipe σ vs) H' fun σ2 H2 => wipe σ2 vs = wipe σ vs ∧ tt σ2 H2 fun b H3 =>
        if b = true then te σ2 H3 fun y H4 => ∃ acc, H4 D = some (.lst acc) ∧ acc.length < sizeLine ∧ Nx (upd H4 D (.lst (acc ++ [y]))) else Nx H3) := by
  have stand : ∀ {H}, Same H1 H → S H := fun {H} s => W.keep s hS
  refine ⟨fun i m H => m + i = ps.length ∧ MF H1 D ds keep Rel i H, ⟨ps.length, rfl, fun b o e => by rw [upd_ne (ne_of_none e hD)]; exact e, [], upd_same, .nil⟩, fun i m H ⟨e, p⟩ => ?_⟩
  cases m with
  | zero =>
    obtain rfl : i = ps.length := by omega
    obtain ⟨ys, ey, al⟩ := p.acc
    refine .inl ⟨W.stop H (stand p.same), hd H ys p.same ey ?_⟩
    rw [List.take_of_length_le (by omega)] at al
    exact al
  | succ m =>
    have hi : i < ps.length := by omega
    refine .inr ⟨W.go i H hi (stand p.same), MF H1 D ds keep Rel (i + 1), fun H' p' => ⟨m, Nat.lt_succ_self m, by omega, p'⟩, fun v H' y => ?_⟩
    obtain ⟨T, x, rfl, hT, rfl, ex⟩ := W.yld i H v H' hi (stand p.same) y
    have s2 := same_new hT (.tup [x.1, x.2])
    obtain ⟨s1, ys, ey, al⟩ := p
    exact hs i T x ds[i] _ ex (List.getElem?_eq_getElem (by omega)) (s1.trans s2) upd_same ⟨s1.trans s2, ys, s2 _ _ ey, al.imp fun _ _ q => mono _ _ _ _ (Fix.of s2) q⟩
/-- a dict comprehension over enumerate: kvs of the first i items -/
theorem dc_en {J : It} {a : Addr} {S : Hp → Prop} {xs : List V} (W : Sq.En J a S xs) (kv : Nat → List (L2.Key × V)) {g : TG} {tt : TT} {tk tv : TE} {vs : List Nat} {σ : L2.St} {H1 : Hp} {D : Addr} {Qd : Hp → Prop} (hS : ∀ {H}, Same H1 H → S H) (hD : H1 D = none)
    (h0 : kv 0 = []) (hl : ∀ i, (kv i).length < sizeLine)
    (hs : ∀ i T x H, xs[i]? = some x → Same H1 H → H T = some (.tup [.int (i : Nat), x]) → H D = some (.dK (kv i)) → g (.ref T) (wipe σ vs) H fun σ2 H2 => wipe σ2 vs = wipe σ vs ∧ tt σ2 H2 fun b H3 =>
      b = true ∧ tk σ2 H3 fun y H4 => tv σ2 H4 fun z H5 => Same H H5 ∧ ∃ k, y = kV k ∧ putK (kv i) k z = kv (i + 1))
    (hd : ∀ H, Same H1 H → H D = some (.dK (kv xs.length)) → Qd H) (mono : ∀ {σ H} {Q Q' : L2.St → Hp → Prop}, (∀ σ H, Q σ H → Q' σ H) → ∀ v, g v σ H Q → g v σ H Q') (monot : ∀ {σ H} {Q Q' : Bool → Hp → Prop}, (∀ b H, Q b H → Q' b H) → tt σ H Q → tt σ H Q')
    (monok : ∀ {σ H} {Q Q' : VK}, (∀ v H, Q v H → Q' v H) → tk σ H Q → tk σ H Q') (monov : ∀ {σ H} {Q Q' : VK}, (∀ v H, Q v H → Q' v H) → tv σ H Q → tv σ H Q') :
    ∃ W : Nat → Nat → Hp → Prop, (∃ m, W 0 m (upd H1 D (.dK []))) ∧ ∀ i m H, W i m H →
      (J.stop i H ∧ Qd H) ∨ (J.go i H ∧ ∃ Nx : Hp → Prop, (∀ H', Nx H' → ∃ m', m' < m ∧ W (i + 1) m' H') ∧ ∀ v H', J.yld i H v H' → g v (wipe σ vs) H' fun σ2 H2 => wipe σ2 vs = wipe σ vs ∧ tt σ2 H2 fun b H3 =>
        if b = true then tk σ2 H3 fun y H4 => tv σ2 H4 fun z H5 => ∃ kvs k, y = kV k ∧ H5 D = some (.dK kvs) ∧ kvs.length < sizeLine ∧ Nx (upd H5 D (.dK (putK kvs k z))) else Nx H3) := by
  refine ⟨fun i m H => m + i = xs.length ∧ Same H1 H ∧ H D = some (.dK (kv i)), ⟨xs.length, rfl, fun b o e => by rw [upd_ne (ne_of_none e hD)]; exact e, by rw [upd_same, h0]⟩, fun i m H ⟨e, s, eD⟩ => ?_⟩
  cases m with
  | zero =>
    obtain rfl : i = xs.length := by omega
    exact .inl ⟨W.stop H (hS s), hd H s eD⟩
  | succ m =>
    have hi : i < xs.length := by omega
    refine .inr ⟨W.go i H hi (hS s), fun H' => Same H1 H' ∧ H' D = some (.dK (kv (i + 1))), fun H' p' => ⟨m, Nat.lt_succ_self m, by omega, p'⟩, fun v H' y => ?_⟩
    obtain ⟨T, x, rfl, hT, rfl, ex⟩ := W.yld i H v H' (hS s) y
    have s2 := same_new hT (.tup [.int (i : Nat), x])
    refine mono (fun σ2 H2 q => ⟨q.1, monot (fun b H3 q => ?_) q.2⟩) _ (hs i T x _ ex (s.trans s2) upd_same (s2 _ _ eD))
    obtain ⟨rfl, q⟩ := q
    rw [if_pos rfl]
    refine monok (fun y H4 q => monov (fun z H5 q => ?_) q) q
    obtain ⟨s3, k, ek, ep⟩ := q
    refine ⟨_, k, ek, s3 _ _ (s2 _ _ eD), hl i, fun b o e => ?_, by rw [upd_same, ep]⟩
    rw [upd_ne (ne_of_none e hD)]
    exact s3 _ _ ((s.trans s2) _ _ e)
end
/-! ### max(xs, default=d) -/
def rMaxDf (K : PySem.W.Frag) : List V → List V → Hp → VK → Prop := fun xs zs H Q => ∃ (a : Addr) (ns : List Int) (d : Int), xs = [.ref a] ∧ zs = [.int d] ∧ SqL K H a (ns.map V.int) ∧ (ns = [] → Q (.int d) H) ∧ ∀ m, m ∈ ns → (∀ y ∈ ns, y ≤ m) → Q (.int m) H
theorem maxOf_is (x : Int) : ∀ xs : List Int, PySem.W.maxOf x xs ∈ x :: xs ∧ ∀ y ∈ x :: xs, y ≤ PySem.W.maxOf x xs := by
  intro xs
  unfold PySem.W.maxOf
  induction xs generalizing x with
  | nil => exact ⟨List.mem_cons_self, fun y hy => by rw [List.mem_singleton.mp hy]; exact Int.le_refl _⟩
  | cons z xs ih =>
    rw [List.foldl_cons]
    by_cases c : PySem.W.DatumOrd.lt x z = true
    · rw [if_pos c]
      have c' : x < z := of_decide_eq_true c
      obtain ⟨h1, h2⟩ := ih z
      refine ⟨List.mem_cons_of_mem _ h1, fun y hy => ?_⟩
      rcases List.mem_cons.mp hy with e | hy
      · have := h2 z List.mem_cons_self
        omega
      · exact h2 y hy
    · rw [if_neg c]
      have c' : ¬ x < z := fun q => c (decide_eq_true q)
      obtain ⟨h1, h2⟩ := ih x
      have hx := h2 x List.mem_cons_self
      refine ⟨?_, fun y hy => ?_⟩
      · rcases List.mem_cons.mp h1 with e | h1
        · rw [e]; exact List.mem_cons_self
        · exact List.mem_cons_of_mem _ (List.mem_cons_of_mem _ h1)
      · rcases List.mem_cons.mp hy with e | hy
        · omega
        · rcases List.mem_cons.mp hy with e | hy
          · omega
          · exact h2 y (List.mem_cons_of_mem _ hy)
theorem cr_maxDf {X : Cx} (hc : X.calm = true) (hu : X.A.units + 64 < cLine) : CallRK X (.builtin "max") ["default"] (rMaxDf X.K) := by
  intro pins s σ H xs zs us ws Q I r1 r2 h
  obtain ⟨a, ns, d, rfl, rfl, hs, q0, q1⟩ := h
  obtain ⟨its, rv, hl, _⟩ := I.list hs
  cases r2 with
  | cons rd rt =>
    cases rt
    obtain ⟨t, rfl⟩ := rd
    rw [Vals.ref1 r1]
    show wpAny (model X.prog X.w) X.A (call (.builtin "max") [.ref a] [(Str.ofString "default", _)]) _ _ s
    refine PySem.W.max_list_datum_default (α := Int) (I.ok.hd hc) hl.isList (PySem.W.HoldAll.of_ints rv.ints) (by show X.A.units + 1 + 0 < cLine; omega) (fun e h' tk hk => ⟨.int d, H, I.kept hk, ⟨_, rfl⟩, q0 e⟩) fun y ys i v h' tk e hv hh hk => ?_
    obtain ⟨as, hr⟩ := hh
    obtain ⟨m1, m2⟩ := maxOf_is y ys
    generalize PySem.W.maxOf y ys = m at hr m1 m2
    have hr : Reads h' v (.int m) as := hr
    cases hr with
    | int _ t => exact ⟨.int m, H, I.kept hk, ⟨t, rfl⟩, q1 m (e ▸ m1) fun y hy => m2 y (e ▸ hy)⟩
/-! ### D.get(x), D a dict of the text -/
def tKGet (K : PySem.W.Frag) (w : World) (p : Addr) (ty : TE) : TE := fun σ H Q => ty σ H fun y H2 => ∃ z v, y = .str z ∧ KDct K w p z v ∧ Q v H2
theorem pe_kget {X : Cx} {x : Str} {xp : Pos} {e : Expr} {apos cpos : Pos} {ty : TE} {p : Addr} {es : Array DictEntry} {n : Nat} (D : KDict X.K X.w p es n) (hg : Gl X x) (hm : X.mg x = some (.ref p)) (he : PE X e ty) (m : M1 X (.Name x xp) "get" apos e cpos) (hdb : (x == ("__debug__" : Str)) = false := by decide) :
    PE X (.Call (.Attribute (.Name x xp) "get" apos) [e] [] cpos) (tKGet X.K X.w p ty) := by
  refine ⟨fun pins s σ H Q I h => ?_⟩
  have ho : PE X (.Name x xp) (tC (.ref p)) := pe_glob hg hm rfl hdb
  refine wpAny_Call_method m.base m.few m.line PySem.F.plainAttrs_dict PySem.F.slot_dict_get PySem.F.type_dict_get (thn (ho.run pins s σ H (fun x H1 => x = .ref p ∧ H1 = H) I ⟨rfl, rfl⟩) fun u s1 ⟨x, H1, I1, rx, ex, eH⟩ => ?_)
  subst ex eH
  obtain rfl : u = Value.ref p := rx
  have mo := PySem.W.mapOf_K (prog := X.prog) (w := X.w) I1.kIn D.at_ D.lit
  refine ⟨mo.typeIs, fun b q => ?_, ?_⟩
  · cases q
    exact ⟨_, I1.kIn _ _ D.at_, rfl⟩
  rw [m.trees]
  refine Calls.callWith_builtin rfl (Calls.evalArgs_plain (Calls.spliced_cons (thn (he.run pins s1 σ H1 _ I1 h) fun iv s2 ⟨y, H2, I2, ry, z, v, ey, ⟨es', n', u0, hl, hk, eu, ru⟩, q2⟩ => Calls.spliced_nil ?_)))
  subst ey
  obtain ⟨t, rfl⟩ := ry
  have mo2 := PySem.W.mapOf_K (prog := X.prog) (w := X.w) I2.kIn hl hk
  refine call_meetsIn PySem.F.slot_dict_get mo2.typeIs PySem.F.entry_dict_get (PySem.F.args_dict_get_2 _ _) (meets_dict_get _ p (strKind_is X.prog X.w z t) D.low) ⟨_, mo2, ?_⟩
  rw [PySem.W.find_K hl eu]
  exact ⟨v, H2, I2.tok _, ru, q2⟩
end Zp
namespace Zp
open PySem PySem.Spec PyProof.Rows L2 Hb St Sq RZ
theorem pe_or2 {X : Cx} {e : Expr} {t1 t2 : TE} (h1 : PE X e t1) (h2 : PE X e t2) : PE X e (fun σ H Q => t1 σ H Q ∨ t2 σ H Q) := ⟨fun pins s σ H Q I h => h.elim (h1.run pins s σ H Q I) (h2.run pins s σ H Q I)⟩
theorem _root_.L2.Room.units65 {k : Nat} {A : Around} (r : Room k A) : A.units + 65 < cLine := by have := r.un; omega
end Zp

/-! readings -/
namespace Rd
open PySem PySem.Spec PyProof.Rows L2 Hb St Sq RZ
section
variable {K : PySem.W.Frag} {H : Hp} {Q : VK}
theorem ty_tup {a : Addr} {xs : List V} (h : SqT K H a xs) : TyX K H (.ref a) (.type "tuple") := by
  rcases h with (e | ⟨o, e⟩) | ⟨o, its, n, e, c, _⟩
  · exact .base (.tup e)
  · exact .fTuple e
  · exact .kTuple e c
theorem ty_lst {a : Addr} {xs : List V} (h : SqL K H a xs) : TyX K H (.ref a) (.type "list") := by
  rcases h with (e | ⟨o, e⟩) | ⟨o, its, n, e, c, _⟩
  · exact .base (.lst e)
  · exact .base (.frz e)
  · exact .kList e c
theorem rd_isTup {a : Addr} {xs : List V} (h : SqT K H a xs) (q : Q (.bl true) H) : rIsi K [.ref a, .ty "tuple"] H Q := ⟨_, _, _, _, _, rfl, .ty "tuple", ty_tup h, kit_ty (r := true) (by decide +kernel), q⟩
theorem rd_noTupL {a : Addr} {xs : List V} (h : SqL K H a xs) (q : Q (.bl false) H) : rIsi K [.ref a, .ty "tuple"] H Q := ⟨_, _, _, _, _, rfl, .ty "tuple", ty_lst h, kit_ty (r := false) (by decide +kernel), q⟩
theorem rd_noTupS {x : Str} (q : Q (.bl false) H) : rIsi K [.str x, .ty "tuple"] H Q := ⟨_, _, _, _, _, rfl, .ty "tuple", .base (.str x), kit_ty (r := false) (by decide +kernel), q⟩
theorem rd_noTupI {i : Int} (q : Q (.bl false) H) : rIsi K [.int i, .ty "tuple"] H Q := ⟨_, _, _, _, _, rfl, .ty "tuple", .base (.int i), kit_ty (r := false) (by decide +kernel), q⟩
theorem rd_isStr {x : Str} (q : Q (.bl true) H) : rIsi K [.str x, .ty "str"] H Q := ⟨_, _, _, _, _, rfl, .ty "str", .base (.str x), kit_ty (r := true) (by decide +kernel), q⟩
theorem rd_noStr {i : Int} (q : Q (.bl false) H) : rIsi K [.int i, .ty "str"] H Q := ⟨_, _, _, _, _, rfl, .ty "str", .base (.int i), kit_ty (r := false) (by decide +kernel), q⟩
theorem sIx1 {n : Nat} (h : 1 ≤ n) : HT.sIx n 0 (some 1) = 1 := by rw [show (1 : Int) = ((1 : Nat) : Int) from rfl, HT.sIx_nat]; omega
theorem cut1 {v : V} {xs : List V} : cutV (v :: xs) (some 1) none = xs := by
  unfold cutV
  rw [sIx1 (by simp), HT.sIx_none, List.drop_one, List.tail_cons, List.take_of_length_le (by simp)]
/-- a tuple from its second thing on -/
theorem rd_tail {a : Addr} {v : V} {xs : List V} (h : SqT K H a (v :: xs)) (q : ∀ p H', H p = none → Same H H' → H' p = some (.tup xs) → Q (.ref p) H') : rSlA K (.ref a) (some 1) none H Q := by
  refine ⟨a, _, rfl, h, fun ⟨z, _⟩ => ?_, fun _ p hp => ?_⟩
  · rw [sIx1 (by simp)] at z
    cases z
  · rw [cut1]
    exact q p _ hp (same_new hp _) upd_same
theorem rd_all {a : Addr} {bs : List Bool} (h : SqL K H a (bs.map V.bl)) (q : Q (.bl (bs.all id)) H) : rAll K [.ref a] H Q := ⟨a, bs, rfl, h, q⟩
theorem bl_true {α : Type} {ys : List V} {ds : List α} (h : All2 (fun (y : V) (_ : α) => y = .bl true) ys ds) : ys = (ds.map fun _ => true).map V.bl := by
  rw [List.map_map]
  exact h.map_eq fun a b e => e
theorem rd_allT {α : Type} {a : Addr} {ys : List V} {ds : List α} (h : H a = some (.lst ys)) (al : All2 (fun (y : V) (_ : α) => y = .bl true) ys ds) (q : Q (.bl true) H) : rAll K [.ref a] H Q := by
  refine rd_all (bs := ds.map fun _ => true) (SqL.of (by rw [← bl_true al]; exact h)) ?_
  rw [show ((ds.map fun _ => true).all id) = true by simp]
  exact q
theorem at_map {α β : Type} {f : α → β} {l : List α} {i : Nat} {x : β} {d : α} (h : (l.map f)[i]? = some x) (k : l[i]? = some d) : x = f d := by
  rw [List.getElem?_map, k] at h
  exact (Option.some.inj h).symm
theorem at_mem {α : Type} {l : List α} {i : Nat} {d : α} (k : l[i]? = some d) : d ∈ l := List.mem_of_getElem? k
theorem filter_all {α : Type} (l : List α) : l.filter (fun _ => true) = l := List.filter_eq_self.mpr fun _ _ => rfl
/-- an item from behind -/
theorem at_last {xs : List V} {x : V} : atI (xs ++ [x]) (-1) = some x := by
  unfold atI ixN
  rw [List.length_append, if_neg (by decide), if_pos (by simp; omega)]
  show (xs ++ [x])[(-1 + ((xs.length + [x].length : Nat) : Int)).toNat]? = some x
  rw [show (-1 + ((xs.length + [x].length : Nat) : Int)).toNat = xs.length by simp; omega, List.getElem?_append_right (Nat.le_refl _), Nat.sub_self]
  rfl
theorem at_nat {α : Type} {xs : List α} {i : Nat} {x : α} (h : xs[i]? = some x) : atI xs (i : Nat) = some x := by
  have hi := (List.getElem?_eq_some_iff.mp h).1
  unfold atI ixN
  rw [if_pos (by omega), if_pos (by omega)]
  exact h
theorem at0 {α : Type} {x : α} {xs : List α} : atI (x :: xs) 0 = some x := at_nat (i := 0) rfl
theorem at1 {α : Type} {x y : α} {xs : List α} : atI (x :: y :: xs) 1 = some y := at_nat (i := 1) rfl
theorem at2 {α : Type} {x y z : α} {xs : List α} : atI (x :: y :: z :: xs) 2 = some z := at_nat (i := 2) rfl
theorem rd_slc {σ : L2.St} {i : Nat} {a : Addr} {v : V} {xs : List V} {tr : TA} {R : List V → Hp → Prop} (e : σ[i]? = some (some (.ref a))) (h : SqT K H a (v :: xs)) (q : ∀ p H', H p = none → Same H H' → H' p = some (.tup xs) → tr σ H' fun ys H2 => R (.ref p :: ys) H2) :
    tCons (tSl (rSlA K) (tVar i) (tPart (tC (.int 1))) tNoPart) tr σ H R := by
  refine ⟨_, e, 1, rfl, ?_⟩
  exact rd_tail (Q := fun x H1 => tr σ H1 fun ys H2 => R (x :: ys) H2) h q
end
end Rd

/-! errors of classes of the program's own, over Exception through other own classes, whose __init__ keeps one thing: self.at = at -/
namespace Xb
open PySem PySem.W PySem.Calls PyProof.Rows PySem.HandSPX
abbrev exB : List Value := [.type "Exception", .type "BaseException", .type "object"]
def iA (p1 p2 : Pos) : Arguments := { posonlyargs := [], args := [{ arg := "self", annotation := none, pos := p1 }, { arg := "at", annotation := none, pos := p2 }], vararg := none, kwonlyargs := [], kw_defaults := [], kwarg := none, defaults := [] }
def iB (q1 q2 q3 q4 : Pos) : List Stmt := [.Assign [.Attribute (.Name "self" q1) "at" q2] (.Name "at" q3) q4]
def iS : Scope := { kind := .function, names := [(PySem.Str.ofString "self", .local), (PySem.Str.ofString "at", .local)], isGenerator := false, isCoroutine := false, more := [] }
/-- what the written part says of the class cn, at C, and of its __init__, at fI -/
structure ErrC (K : Frag) (mg : Str → Option Value) (cn : Str) (C fI : Addr) : Prop where
  gC : mg cn = some (.ref C)
  cls : ∃ nm q N bs bm sn sub ab col dd k0 k1 k2 k3 k5, K.lookup C = some (excClassObj nm q C N bs bm true sn sub ab col dd k0 k1 k2 k3 k5 "Exception.__new__") ∧ excTail exB bm = true
  sa : findIn K (.ref C) "__setattr__" = some (some (.builtin "object.__setattr__"))
  ga : findIn K (.ref C) "__getattribute__" = some (some (.builtin "BaseException.__getattribute__"))
  gg : findIn K (.ref C) "__getattr__" = some none
  noN : findIn K (.ref C) "at" = some none
  iC : findIn K (.ref C) "__init__" = some (some (.ref fI))
  tC : typeIn K (.ref fI) = some (.type "function")
  kC : keepIn K (.ref C) = true
  exC : subIn K (.ref C) (.type "BaseException") = some true
  tyC : typeIn K (.ref C) = some (.type "type")
  hdC : hasDictIn K C = true
  te : exmOne K (.ref C) (.ref C) = some true
  fn : ∃ (oc : Value) (od : Option Addr) (qn : Str) (doc pm : Value) (an : Option Addr) (cdv ct : Value) (osl : Array (Option Value)) (p1 p2 q1 q2 q3 q4 : Pos),
    K.lookup fI = some ⟨oc, od, .func (fnOf "__init__" qn (iA p1 p2) (iB q1 q2 q3 q4) iS .none .none doc pm an cdv ct), osl⟩ ∧ codeIn K cdv qn = true
theorem one_size (v : Value) : [v].length ≤ sizeLine := by
  rw [sizeLine_eq]
  exact (by decide : 1 ≤ 16777216)
theorem at_local {M : Model} {s : Shared} {name : Str} {scope : Scope} {L a : Addr} {cd : Value} {m : Str → Option Value} {x : Str} {pos : Pos} {v : Value} {Q : Value → Shared → Prop} {A : Around} {E : Value → Shared → Prop} (hn : s.heap.Ns L m) (hv : m x = some v) (h : Q v s)
    (hk : scope.kind = .function := by rfl) (hl : (envOfC name scope L a cd).kindOf x = some .local := by rfl) (hd : (x == ("__debug__" : Str)) = false := by decide) :
    wpAny M A (eval (.Name x pos) (envOfC name scope L a cd)) Q E s := wpAny_Name (wpAny_loadName_local hk hl hn hv h) hd
/-- what __init__ leaves of a fresh exception at x -/
structure Ended (h h' : Heap) (x C dx t1 : Addr) (v : Value) : Prop where
  keep : ∀ b o, b ≠ x → h.get? b = some o → h'.get? b = some o
  obj : h'.get? x = some { cls := .ref C, dict := some dx, data := .fields #[.ref t1, .none, .none, .none, .bool false, .none] }
  dbig : h.objs.size ≤ dx
  dne : dx ≠ x
  ns : h'.Ns1 dx (fun y => if y = "at" then some v else none)
structure Made (h h' : Heap) (e C d : Addr) (v : Value) : Prop where
  keep : ∀ b o, h.get? b = some o → h'.get? b = some o
  new : h.objs.size ≤ e
  obj : ∃ oe vs, h'.get? e = some oe ∧ oe.cls = .ref C ∧ oe.dict = some d ∧ oe.data = .fields vs ∧ vs[1]? = some .none
  dbig : h.objs.size ≤ d
  dne : d ≠ e
  ns : h'.Ns1 d (fun y => if y = "at" then some v else none)
section
open Builtin Builtin.ObjectAttr
variable {prog : Program} {w : World} {A : Around} {E : Value → Shared → Prop} {R : Result → Shared → Prop} {K : Frag} {mg : Str → Option Value} {cn : Str} {C fI : Addr}
/-- the first store to such an exception: it gets its dict -/
theorem first_store {hp : Heap} {g : Array GenState} {d : Drawn} {t : Nat} {os : OsState} {name : Str} {tk : Tok} {v : Value} {x : Addr} {fv : Array Value} {cd : ClassData}
    (X : K.In hp) (hx : hp.get? x = some { cls := .ref C, data := .fields fv }) (hcd : clsIn K C = some cd) (ho : excOver K C exB = true) (hh : cd.hasDict = true) (ha : findIn K (.ref C) name = some none)
    (hq : ∀ h' tk' dx, (∀ b o, b ≠ x → hp.get? b = some o → h'.get? b = some o) → hp.objs.size ≤ dx → dx ≠ x → h'.get? x = some { cls := .ref C, dict := some dx, data := .fields fv } →
      h'.Ns1 dx (fun y => if y = name then some v else none) → R (.ok (.ret .none)) ⟨h', g, d, tk', os⟩) :
    codeAny (model prog w) A (.call (.builtin "object.__setattr__") ⟨[.ref x, .str name tk, v], []⟩) R ⟨hp, g, d, t, os⟩ := by
  have I : InstAt hp x { cls := .ref C, data := .fields fv } C none := ⟨hx, rfl, rfl, trivial⟩
  have nx : x ≠ hp.objs.size := Nat.ne_of_lt (Heap.lt_size hx)
  refine osa_openX (r := none) F.store_Exception X I ho (by unfold takerIn; rw [ha]; rfl) fun b => ?_
  show wpAny _ _ (storeInOwnDict (.ref x) (.ref C) (.str name tk) name v b) _ _ _
  have hC : Looks (model prog w) hp (classData C) cd := looks_clsIn X hcd
  obtain ⟨_, _, _, _, _, hd, _, _, _, _, _⟩ := cd
  dsimp only at hh
  subst hh
  unfold storeInOwnDict ownDictForStores
  repeat (first | with_reducible refine wpAny_loadPart_at hx ?_ | with_reducible refine hC.at ?_ | with_reducible refine HandSPX.store_in_new ?_ ?_ | wp_step)
  · exact ⟨_, #[], _, (Heap.get?_update_ne _ _ _ _ nx.symm).trans (Heap.get?_push_at rfl rfl), rfl, fun e he => absurd he (by simp), fun _ => rfl⟩
  · intro h' tk' hn' hs
    have old : (hp.push { cls := .type "dict", data := .dict #[] }).get? x = some { cls := .ref C, data := .fields fv } := Heap.get?_push_of_some _ hx
    refine hq h' tk' hp.objs.size (fun b o hb ho => ?_) (Nat.le_refl _) nx.symm ?_ hn'
    · exact (hs.2 b (Nat.ne_of_lt (Heap.lt_size ho))).trans ((Heap.get?_update_ne _ _ _ _ hb).trans (Heap.get?_push_of_some _ ho))
    · exact (hs.2 x nx).trans (Heap.get?_update_self _ old rfl)
theorem err_init (T : ErrC K mg cn C fI) {s : Shared} {x t0 : Addr} {v : Value} (X : K.In s.heap) (hlim : s.heap.NoLimit) (hx : s.heap.get? x = some (excO C t0)) (hroom : A.depth < recursionLimit)
    (hq : ∀ h' tk dx, Ended s.heap h' x C dx t0 v → R (.ok (.ret .none)) { s with heap := h', toks := tk }) :
    codeAny (model prog w) A (.call (.ref fI) ⟨[.ref x, v], []⟩) R s := by
  obtain ⟨oc, od, qn, doc, pm, an, cdv, ct, osl, p1, p2, q1, q2, q3, q4, ho, hcd⟩ := T.fn
  obtain ⟨nm, q, N, bs, bm, sn, sub, ab, col, dd, k0, k1, k2, k3, k5, hC, hbm⟩ := T.cls
  have hcl : clsIn K C = some { name := nm, bases := bs, mro := .ref C :: bm, ns := N, qualname := q, hasDict := true, slotNames := sn, subclasses := sub, abstract := ab, collection := col, hasDel := false } := by unfold clsIn; rw [hC] <;> rfl
  have over : excOver K C exB = true := by
    unfold excOver
    rw [hcl]
    show ((C == C) && excTail exB bm) = true
    rw [hbm, beq_self_eq_true]
    rfl
  refine Att.call_fn (binds := [("self", .ref x), ("at", v)]) X hlim ho hcd hroom (BindsTo.of_eq (by first | rfl | with_unfolding_all rfl)) (by first | rfl | decide | with_unfolding_all rfl) (fun s₁ IC => ?_) rfl rfl rfl
  obtain ⟨h₁, tk₁, rfl⟩ := IC.toInCall.same
  have k : ∀ b o, s.heap.get? b = some o → h₁.get? b = some o := IC.toInCall.keep
  have hn := IC.toInCall.ns
  have X₁ : K.In h₁ := X.keeps k
  have hx₁ := k _ _ hx
  show wpAny _ _ (execs _ _) _ _ _
  refine wpAny_execs_cons (plainObj_wpAny_Assign_Attribute ?_)
  refine at_local (v := v) hn (by first | rfl | with_unfolding_all rfl | kernel_rfl) (at_local (v := .ref x) hn (by first | rfl | with_unfolding_all rfl | kernel_rfl) ?_)
  refine set_plain X₁ (ox := excO C t0) (od := none) ⟨hx₁, rfl, rfl, trivial⟩ T.sa ?_
  refine first_store X₁ hx₁ hcl over rfl T.noN (fun h₃ tk₃ dx k₃ dn dne hx₃ hn₃ => ?_)
  show wpAny _ _ (execs _ _) _ _ _
  have z : s.heap.objs.size < h₁.objs.size := hn.lt
  exact wpAny_execs_nil (hq h₃ tk₃ dx ⟨fun b o hb e => k₃ b o hb (k b o e), hx₃, Nat.le_of_lt (Nat.lt_of_lt_of_le z dn), dne, hn₃⟩)
theorem err_made (T : ErrC K mg cn C fI) {s : Shared} {v : Value} (X : K.In s.heap) (hlim : s.heap.NoLimit) (hroom : A.depth + 1 < recursionLimit)
    (hq : ∀ h' tk e d, Made s.heap h' e C d v → R (.ok (.ret (.ref e))) { s with heap := h', toks := tk }) :
    codeAny (model prog w) A (.call (.ref C) ⟨[v], []⟩) R s := by
  obtain ⟨nm, q, N, bs, bm, sn, sub, ab, col, dd, k0, k1, k2, k3, k5, hC, hbm⟩ := T.cls
  obtain ⟨hp, g, dr, tk, os⟩ := s
  have k : ∀ b o, hp.get? b = some o → ((hp.push (kdv_tup [v])).push (excO C hp.objs.size)).get? b = some o := fun b o e => Heap.get?_push_of_some _ (Heap.get?_push_of_some _ e)
  have hget : ((hp.push (kdv_tup [v])).push (excO C hp.objs.size)).get? (hp.objs.size + 1) = some (excO C hp.objs.size) := by heap_get
  refine call_own F.excBase_Exception (fun X => excTail_contains X bm hbm) (X _ _ hC) (looks_findIn X T.iC) (fun self => bind_fn X self T.tC) (one_size v) ?_
  refine err_init (s := ⟨(hp.push (kdv_tup [v])).push (excO C hp.objs.size), g, dr, tk, os⟩) T (X.keeps k) (hlim.keeps k) hget ?_ fun h' tk' dx ⟨k', hx, dn, dne, hns⟩ => ?_
  · show A.depth + 1 < recursionLimit
    exact hroom
  · have old : ∀ b o, hp.get? b = some o → h'.get? b = some o := fun b o e => k' b o (Nat.ne_of_lt (Nat.lt_succ_of_lt (Heap.lt_size e))) (k b o e)
    have z : hp.objs.size + 1 + 1 ≤ dx := by
      first
        | (simpa only [Heap.size_push] using dn)
        | exact dn
        | (have q := dn; rw [Heap.size_push, Heap.size_push] at q; exact q)
    exact ⟨rfl, hq h' tk' (hp.objs.size + 1) dx ⟨old, Nat.le_succ _, ⟨_, _, hx, rfl, rfl, rfl, rfl⟩, Nat.le_trans (Nat.le_trans (Nat.le_succ _) (Nat.le_succ _)) z, dne, hns⟩⟩
end
end Xb
namespace Xb
open PySem PySem.Spec PyProof.Rows L2
theorem relO_at {v : V} {v' : Value} (r : RelV v v') (f : Str) : RelO (List.lookup f [(("at" : Str), v)]) (if f = "at" then some v' else none) := by
  by_cases hw : f = "at"
  · subst hw
    rw [if_pos rfl]
    have q : List.lookup ("at" : Str) [(("at" : Str), v)] = some v := by simp [List.lookup]
    rw [q]
    exact r
  · rw [if_neg hw]
    have qw : (f == ("at" : Str)) = false := by simpa using hw
    have q2 : List.lookup f [(("at" : Str), v)] = none := by simp [List.lookup, qw]
    rw [q2]
    trivial
section
variable {X : Cx} {cn : Str} {C fI : Addr}
/-- cn(e) -/
def tMk (C : Addr) (ta : TA) : L2.St → Hp → XK → Prop := fun σ H Q => ta σ H fun vs H1 => ∃ v, vs = [v] ∧ ∀ d, H1 d = none → Q (.ref C) (some d) (upd H1 d (.xd [(("at" : Str), v)]))
theorem pmk_at {a : Expr} {ta : TA} {p pos : Pos} {k : Nat} (T : ErrC X.K X.mg cn C fI) (hr : Room k X.A) (ha : PA X [a] ta) (hg : Gl X cn) (hdb : (cn == ("__debug__" : Str)) = false := by decide)
    (he : starEach (a :: []) X.env = (false, eval a X.env) :: starEach [] X.env := by rfl) (hpl : (backTo pos (starEach [] X.env)).any (·.1) = false := by rfl) :
    PMk X (.Call (.Name cn p) [a] [] pos) (tMk C ta) := by
  intro pins s σ H Q I h
  refine wpAny_Call_Name_kw (ld_glob I hg T.gC ?_ hdb)
  refine PySem.W.callWith_K (h₀ := X.base) I.ok.mod.kin T.kC (thn (ha.run pos pins s σ H _ I h) fun us s1 hh => ?_) he hpl
  obtain ⟨vs, H1, I1, r1, v, ev, q1⟩ := hh
  subst ev
  refine ⟨I1.kIn, ?_⟩
  cases r1 with
  | cons rv rn =>
    rename_i v' us'
    cases rn
    show wpAny _ _ (call (.ref C) [v']) _ _ _
    have hlim := I1.nolimit
    obtain ⟨hp, g, dr, tk, os⟩ := s1
    refine wpAny_call (err_made T I1.kIn hlim (by have := hr.dp; omega) fun h' tk' e d M => ?_)
    show MkP X pins σ Q (.ref e) ⟨h', g, dr, tk', os⟩
    obtain ⟨oe, fv, hoe, hc, hd, hdat, h1⟩ := M.obj
    have hns := M.ns
    obtain ⟨G', g1, g2⟩ := restrict h' fun b => decide (b ≠ e)
    have gk : ∀ b, b ≠ e → G'.get? b = h'.get? b := fun b hb => g1 b (decide_eq_true hb)
    have ge : G'.get? e = none := g2 e (by simp)
    have old : ∀ b o, hp.get? b = some o → G'.get? b = some o := fun b o q => (gk b (Nat.ne_of_lt (Nat.lt_of_lt_of_le (Heap.lt_size q) M.new))).trans (M.keep b o q)
    have ob : ObjOk X.prog X.w (upd H1 d (.xd [(("at" : Str), v)])) G' d (.xd [(("at" : Str), v)]) :=
      ⟨_, hns.at (fun o q => (gk d M.dne).trans q), fun f => relO_at rv f⟩
    have J : Inv X pins σ (upd H1 d (.xd [(("at" : Str), v)])) ⟨G', g, dr, tk', os⟩ := I1.laid (t' := tk') old M.dbig ob
    refine ⟨e, oe, fv, ⟨G', g, dr, tk', os⟩, _, .ref C, some d, rfl, J, fun b o q => ?_, ge, hoe, ⟨hc, hd⟩, hdat, h1, ?_, rfl, I1.bare, raises_own T.exC T.tyC, q1 d (I1.hok.fresh M.dbig)⟩
    · by_cases hb : b = e
      · have q' : G'.get? b = some o := q
        rw [hb, ge] at q'; cases q'
      · exact (gk b hb).symm.trans q
    · rw [upd_ne (Ne.symm M.dne)]
      exact I1.hok.fresh M.new
/-- raise cn(e) -/
def tRaise (C : Addr) (W : WX) (ta : TA) : TS := fun _ σ H => tMk C ta σ H fun cls d H' => W cls d σ H'
theorem ps_raiseAt {a : Expr} {ta : TA} {W : WX} {p pos pos2 : Pos} {k : Nat} (hc : X.calm = true) (T : ErrC X.K X.mg cn C fI) (hr : Room k X.A) (tk : Takes X W) (ha : PA X [a] ta) (hg : Gl X cn) (hdb : (cn == ("__debug__" : Str)) = false := by decide)
    (he : starEach (a :: []) X.env = (false, eval a X.env) :: starEach [] X.env := by rfl) (hpl : (backTo pos (starEach [] X.env)).any (·.1) = false := by rfl) :
    PS X (.Raise (some (.Call (.Name cn p) [a] [] pos)) none pos2) (tRaise C W ta) := ps_raise hc tk (pmk_at T hr ha hg hdb he hpl)
theorem ErrC.xf (T : ErrC X.K X.mg cn C fI) : XfC X.K C := ⟨T.ga, T.gg, T.exC, T.hdC⟩
end
end Xb

/-! t.index(x), t a tuple of flat values -/
namespace L2
open PySem PySem.Spec PyProof.Rows
section
variable {X : Cx}
def rTIndex (K : PySem.W.Frag) : V → List V → Hp → VK → Prop := fun x xs H Q => ∃ (a : Addr) (ys : List V) (y : V) (j : Nat) (z : V), x = V.ref a ∧ xs = [y] ∧ SqT K H a ys ∧ flatV y = true ∧ ys.all flatV = true ∧ ys[j]? = some z ∧ eqV z y = true ∧
  (∀ (m : Nat) (z' : V), m < j → ys[m]? = some z' → eqV z' y = false) ∧ Q (.int (j : Nat)) H
theorem mt_tindex : MtR X "tuple.index" (rTIndex X.K) := by
  intro pins s σ H x xs v us Q I rx rxs h
  obtain ⟨a, ys, y, j, z, rfl, rfl, hs, fy, fys, hz, hzj, hno, q⟩ := h
  cases rx
  cases rxs with
  | cons ry rt =>
    rename_i uy ut
    cases rt
    obtain ⟨its, rv, ⟨⟨cls, dd, data, sl⟩, ho, hc, n, hd⟩, hlen⟩ := I.tuple hs
    simp only at hc hd
    subst hc hd
    obtain ⟨u, hu, ru⟩ := rv.get hz
    obtain ⟨hjl, hje⟩ := List.getElem?_eq_some_iff.mp hu
    have hvl := rv.length
    have hj : j < its.toArray.size := by simpa using hjl
    refine call_meets PySem.F.slot_tuple_index ⟨_, ho, rfl⟩ PySem.F.entry_tuple_index (PySem.F.args_tuple_index_2 _ _)
      (TI.tuple_indexAt a its.toArray n dd sl uy (eqU y) j hj ?_ ?_) ⟨ho, fun u' hu' => mem_eqAt ry fy rv fys u' (by simpa using hu'), ?_⟩
    · have e1 : its.toArray[j] = u := by simpa using hje
      rw [e1, eqU_of ru (flat_at fys hz)]
      exact hzj
    · intro m hm hmj
      have hml : m < its.length := by simpa using hm
      have hmy : m < ys.length := by omega
      have hy' : ys[m]? = some ys[m] := List.getElem?_eq_getElem hmy
      obtain ⟨u2, hu2, ru2⟩ := rv.get hy'
      obtain ⟨_, hme⟩ := List.getElem?_eq_some_iff.mp hu2
      have e1 : its.toArray[m] = u2 := by simpa using hme
      rw [e1, eqU_of ru2 (flat_at fys hy')]
      exact hno m _ hmj hy'
    · exact ⟨.int (j : Nat), H, I.tok _, ⟨_, rfl⟩, q⟩
variable {o e : Expr} {es : List Expr} {to : TE} {t : TA} {name : Str} {apos cpos : Pos} {id : String} {r : V → List V → Hp → VK → Prop}
/-- a tuple of which it is known that it has no dict -/
def TupZ (H : Hp) (a : Addr) (ys : List V) : Prop := ∃ o : Obj, o.dict = none ∧ H a = some (.frz o (.tup ys))
theorem TupZ.sq {K : PySem.W.Frag} {H : Hp} {a : Addr} {ys : List V} (h : TupZ H a ys) : SqT K H a ys := let ⟨o, _, e⟩ := h; .inl (.inr ⟨o, e⟩)
def tTupF (t : TA) : TE := fun σ H Q => t σ H fun xs H1 => xs.length ≤ sizeLine ∧ ∀ p (o : Obj), H1 p = none → o.dict = none → Q (.ref p) (upd H1 p (.frz o (.tup xs)))
theorem pe_tupF {es : List Expr} {pos : Pos} {x1} (h : PA X es t) : PE X (.Tuple es x1 pos) (tTupF t) := by
  refine ⟨fun pins s σ H Q I hq => ?_⟩
  refine wpAny_Tuple_spliced (thn (h.run pos pins s σ H _ I hq) fun us s1 ⟨xs, H1, I1, r, z, q⟩ => ⟨by rw [← r.length]; exact z, ?_⟩)
  have hf : H1 s1.heap.objs.size = none := I1.hok.fresh (Nat.le_refl _)
  refine ⟨.ref s1.heap.objs.size, upd H1 s1.heap.objs.size (.frz _ (.tup xs)), I1.laid (t' := s1.toks) (fun b u e => Heap.get?_push_of_some _ e) (Nat.le_refl _) ⟨Heap.get?_push_size _ rfl, ?_⟩, rfl, q _ _ hf rfl⟩
  exact ⟨z, us, r, ⟨_, Heap.get?_push_size _ rfl, rfl, _, rfl⟩⟩
/-- t + u, new tuples without a dict -/
def rCatF (K : PySem.W.Frag) : R2 := fun x y H Q => ∃ a b xs ys, x = .ref a ∧ y = .ref b ∧ SqT K H a xs ∧ SqT K H b ys ∧ xs.length + ys.length ≤ sizeLine ∧
  (xs = [] → Q (.ref b) H) ∧ (xs ≠ [] → ys = [] → Q (.ref a) H) ∧ (xs ≠ [] → ys ≠ [] → ∀ p (o : Obj), H p = none → o.dict = none → Q (.ref p) (upd H p (.frz o (.tup (xs ++ ys)))))
theorem op_catF : OpR X (binaryOp .Add) (rCatF X.K) := by
  intro pins s σ H x y v u Q I rx ry h
  obtain ⟨a, b, xs, ys, rfl, rfl, ha, hb, hz, q0, q1, q2⟩ := h
  cases rx
  cases ry
  obtain ⟨its, r1, p1, _⟩ := I.tuple ha
  obtain ⟨its2, r2, p2, _⟩ := I.tuple hb
  by_cases hx : xs = []
  · subst hx
    cases r1
    exact cat_tup0 p1 p2 ⟨.ref b, H, I, rfl, q0 rfl⟩
  · refine HT.cat_tup p1 p2 (fun z => hx (r1.nil_iff.mp z)) (fun z => ⟨.ref a, H, I, rfl, q1 hx (r2.nil_iff.mp z)⟩) (fun z => ?_) (by rw [← r1.length, ← r2.length]; exact hz)
    refine ⟨.ref s.heap.objs.size, _, I.laid (t' := s.toks) (o := .frz _ (.tup (xs ++ ys))) (fun b ob q => Heap.get?_push_of_some _ q) (Nat.le_refl _) ⟨Heap.get?_push_size _ rfl, ?_⟩, rfl, q2 hx (fun w => z (r2.nil_iff.mpr w)) _ _ (I.hok.fresh (Nat.le_refl _)) rfl⟩
    exact ⟨by rw [List.length_append]; exact hz, _, r1.append r2, IsTup.new _ _⟩
/-- a method of a tuple -/
def tBMT (K : PySem.W.Frag) (r : V → List V → Hp → VK → Prop) (to : TE) (t : TA) : TE := fun σ H Q => to σ H fun x H1 => ∃ a ys, x = .ref a ∧ TupZ H1 a ys ∧ t σ H1 fun xs H2 => r x xs H2 Q
theorem pe_bmT (pa : PlainAttrs "tuple") (slot : Slot "tuple" name id) (hty : typeOf (.builtin id) = pure (.type "method_descriptor")) (hm : MtR X id r) (ho : PE X o to) (ha : PA X (e :: es) t)
    (hbase : attributeBase o name X.env (eval o X.env) = eval o X.env := by rfl)
    (hfew : ((backTo cpos (starEach (e :: es) X.env)).all (fun x => !x.1) && (backToKw cpos (keywordEach [] X.env)).all (fun x => x.1.isSome)
      && decide ((e :: es).length + ([] : List Keyword).length + (if ([] : List Keyword).isEmpty then 0 else 1) < 30)) = true := by rfl)
    (hline : (apos.endLine == cpos.line) = true := by rfl) (hs : starEach (e :: es) X.env = (false, eval e X.env) :: starEach es X.env := by rfl) (hplain : (backTo cpos (starEach es X.env)).any (·.1) = false := by rfl) :
    PE X (.Call (.Attribute o name apos) (e :: es) [] cpos) (tBMT X.K r to t) := by
  refine ⟨fun pins s σ H Q I h => ?_⟩
  refine wpAny_Call_method_late hbase hfew hline rfl (thn (ho.run pins s σ H _ I h) fun v s1 ⟨x, H1, I1, r1, a, ys, ex, hq, q1⟩ => ?_)
  subst ex
  obtain rfl : v = Value.ref a := r1
  obtain ⟨ob, hn, hfz⟩ := hq
  obtain ⟨ho1, hob⟩ := (show ObjOk X.prog X.w H1 s1.heap a (.frz ob (.tup ys)) from I1.hok a _ hfz)
  obtain ⟨_, its, rv, ⟨ob2, ho2, hc, _⟩⟩ := hob
  rw [ho1] at ho2
  obtain rfl := Option.some.inj ho2
  refine ⟨"tuple", id, pa, slot, hty, ⟨ob, ho1, hc⟩, fun b e => (by cases e; exact ⟨ob, ho1, hn⟩), ?_⟩
  have hA := ha.run cpos pins s1 σ H1 _ I1 q1
  rw [hs] at hA ⊢
  refine Calls.callWith_builtin (by show (false || (backTo cpos (starEach es X.env)).any (·.1)) = false; rw [hplain] <;> rfl) (Calls.evalArgs_plain ?_)
  exact thn hA fun us s2 ⟨vs, H2, I2, r2, q2⟩ => hm pins s2 σ H2 (.ref a) vs (.ref a) us Q I2 rfl r2 q2
end
end L2

/-! names and data that may be compared by == -/
namespace Da
open PySem PySem.Spec PyProof.Rows L2 Hb St Sq
def IsNm (x : Str) : Prop := 0 < x.length ∧ x.length ≤ 8 ∧ ∀ c ∈ x.cps.toList, 97 ≤ c ∧ c < 123
/-! ### names -/
theorem az_all : ((List.range 26).all fun k => Unicode.isAlpha (97 + k) && Unicode.isLower (97 + k) && !Unicode.isUpper (97 + k) && !Unicode.isTitle (97 + k)) = true := by decide +kernel
theorem az {c : Nat} (h : 97 ≤ c ∧ c < 123) : Unicode.isAlpha c = true ∧ Unicode.isLower c = true ∧ Unicode.isUpper c = false ∧ Unicode.isTitle c = false := by
  have q := List.all_eq_true.mp az_all (c - 97) (List.mem_range.mpr (by omega))
  rw [show 97 + (c - 97) = c by omega] at q
  simp only [Bool.and_eq_true, Bool.not_eq_true'] at q
  exact ⟨q.1.1.1, q.1.1.2, q.1.2, q.2⟩
theorem nm_all {x : Str} (h : IsNm x) {p : Nat → Bool} (k : ∀ c, 97 ≤ c ∧ c < 123 → p c = true) : x.cps.all p = true := by
  rw [Array.all_eq_true_iff_forall_mem]
  exact fun c hc => k c (h.2.2 c (Array.mem_toList_iff.mpr hc))
theorem nm_ascii {x : Str} (h : IsNm x) : Txt.isascii x = true := nm_all h fun c hc => by simp; omega
theorem nm_alpha {x : Str} (h : IsNm x) : Txt.isalpha x = true := by
  unfold Txt.isalpha
  rw [nm_all h fun c hc => (az hc).1, decide_eq_true h.1]; rfl
theorem nm_lower {x : Str} (h : IsNm x) : Txt.islower x = true := by
  unfold Txt.islower
  have h1 : x.cps.any Unicode.isLower = true := by
    rw [Array.any_eq_true]
    have hp : 0 < x.cps.size := h.1
    exact ⟨0, hp, (az (h.2.2 _ (by simp))).2.1⟩
  have h2 : (x.cps.any fun c => Unicode.isUpper c || Unicode.isTitle c) = false := by
    rw [Array.any_eq_false]
    intro i hi
    have := az (h.2.2 x.cps[i] (by simp))
    rw [this.2.2.1, this.2.2.2]; decide
  rw [h1, h2]; rfl
theorem eqv_int (a b : Int) : PyData.eqv (.int a) (.int b) = decide (a = b) := by
  show (a == b) = _
  by_cases h : a = b
  · subst h; simp
  · simp [h]
theorem eqv_str (a b : Str) : PyData.eqv (.str a) (.str b) = decide (a = b) := by
  show (a == b) = _
  by_cases h : a = b
  · subst h; simp
  · rw [decide_eq_false h]; exact beq_eq_false_iff_ne.mpr h
theorem eqvAll_map {α : Type} [DecidableEq α] {f : α → PyData} (h : ∀ a b, PyData.eqv (f a) (f b) = decide (a = b)) : ∀ xs ys : List α, PyData.eqvAll (xs.map f) (ys.map f) = decide (xs = ys)
  | [], [] => rfl
  | [], _ :: _ => rfl
  | _ :: _, [] => rfl
  | x :: xs, y :: ys => by
    show (PyData.eqv (f x) (f y) && PyData.eqvAll (xs.map f) (ys.map f)) = _
    rw [h, eqvAll_map h xs ys, ← Bool.decide_and]
    exact decide_eq_decide.mpr (by rw [List.cons.injEq])
/-- may be compared, no deeper than n -/
def Sh (n : Nat) (d : PyData) : Prop := PyData.canLay0 d = true ∧ PyData.depth d ≤ n
theorem sh_all {α : Type} {f : α → PyData} {n : Nat} : ∀ {l : List α}, (∀ a ∈ l, Sh n (f a)) → PyData.canLayAll0 (l.map f) = true ∧ PyData.depthAll (l.map f) ≤ n
  | [], _ => ⟨rfl, Nat.zero_le _⟩
  | a :: l, h => by
    obtain ⟨h1, h2⟩ := h a List.mem_cons_self
    obtain ⟨k1, k2⟩ := sh_all fun b hb => h b (List.mem_cons_of_mem a hb)
    refine ⟨?_, Nat.max_le.mpr ⟨h2, k2⟩⟩
    show (PyData.canLay0 (f a) && PyData.canLayAll0 (l.map f)) = true
    rw [h1, k1]; rfl
theorem sh_tup {α : Type} {f : α → PyData} {n : Nat} {l : List α} (h : ∀ a ∈ l, Sh n (f a)) : Sh (n + 1) (.tuple (l.map f)) := let ⟨a, b⟩ := sh_all h; ⟨a, Nat.succ_le_succ b⟩
theorem sh_lst {α : Type} {f : α → PyData} {n : Nat} {l : List α} (h : ∀ a ∈ l, Sh n (f a)) : Sh (n + 1) (.list (l.map f)) := let ⟨a, b⟩ := sh_all h; ⟨a, Nat.succ_le_succ b⟩
theorem Sh.ok {n : Nat} {d : PyData} (h : Sh n d) (hn : n ≤ 64) : SeqAt.shaped d = true := by
  unfold SeqAt.shaped
  rw [h.1, decide_eq_true (Nat.le_trans h.2 hn)]; rfl
theorem sh_int (n : Nat) (i : Int) : Sh n (.int i) := ⟨rfl, Nat.zero_le _⟩
theorem sh_str {n : Nat} {x : Str} (h : IsNm x) : Sh n (.str x) := ⟨nm_all h fun c hc => decide_eq_true (by omega), Nat.zero_le _⟩
section
variable {K : PySem.W.Frag} {H : Hp}
theorem dp_strs : ∀ xs : List Str, DpAll K H (xs.map V.str) (xs.map PyData.str)
  | [] => .nil
  | x :: xs => .cons (.str x) (dp_strs xs)
theorem dp_intl : ∀ xs : List Int, DpAll K H (xs.map V.int) (xs.map PyData.int)
  | [] => .nil
  | x :: xs => .cons (.int x) (dp_intl xs)
theorem dp_all {α : Type} {R : V → α → Prop} {f : α → PyData} (h : ∀ v a, R v a → Dp K H v (f a)) : ∀ {vs : List V} {ds : List α}, All2 R vs ds → DpAll K H vs (ds.map f)
  | _, _, .nil => .nil
  | _, _, .cons r t => .cons (h _ _ r) (dp_all h t)
end
end Da

/-! xs[::-1] of a tuple -/
namespace Rv
open PySem PySem.Spec PyProof.Rows L2 Hb Sq Ow
theorem places_rev (n : Nat) : Builtin.Slice.slicePlaces ((n : Int) - 1) (-1) (-1) = n := by
  unfold Builtin.Slice.slicePlaces
  rw [if_neg (by decide)]
  by_cases c : n = 0
  · subst c; decide
  · rw [if_pos (by omega)]
    have : ((n : Int) - 1 - -1 - 1) / - -1 + 1 = (n : Int) := by
      have : (- -1 : Int) = 1 := rfl
      rw [this, Int.ediv_one]; omega
    rw [this]; omega
theorem applied_rev {prog : Program} {w : World} {A : Around} {E : Value → Shared → Prop} {s : Shared} {sl : Addr} {vl vu vs : Value} {n : Nat} {Q : Int × Int × Nat → Shared → Prop}
    (hs : s.heap.IsSliceOf sl vl vu vs) (pl : IsPart vl none) (pu : IsPart vu none) (ps : IsPart vs (some (-1))) (h : Q ((n : Int) - 1, -1, n) s) : wpAny (model prog w) A (Builtin.Slice.sliceApplied (.ref sl) (pure (n : Int))) Q E s := by
  obtain ⟨os, hos, hcs, hds⟩ := id hs
  refine wpAny_bind (wpAny_bind (wpAny_field hos hds rfl (wpAny_bind (wpAny_field hos hds rfl (wpAny_bind (wpAny_field hos hds rfl (wpAny_pure (wpAny_bind (HT.slicePart_ ps ?_)))))))))
  show wpAny (model prog w) A (if ((-1 : Int) == 0) = true then _ else _) Q E s
  rw [if_neg (by decide)]
  refine wpAny_bind (HT.slicePart_ pl (wpAny_bind (HT.slicePart_ pu (wpAny_bind (wpAny_pure ?_)))))
  show wpAny (model prog w) A (pure ((n : Int) - 1, -1, Builtin.Slice.slicePlaces ((n : Int) - 1) (-1) (-1))) Q E s
  rw [places_rev]
  exact wpAny_pure h
theorem fm_map {α β : Type} (f : α → Option β) (g : α → β) : ∀ l : List α, (∀ k ∈ l, f k = some (g k)) → l.filterMap f = l.map g
  | [], _ => rfl
  | a :: l, h => by
    rw [List.filterMap_cons, h a List.mem_cons_self, List.map_cons, fm_map f g l fun k hk => h k (List.mem_cons_of_mem _ hk)]
theorem pick_rev (xs : Array Value) : (List.filterMap (fun k : Nat => xs[(((xs.size : Nat) : Int) - 1 + (k : Int) * -1).toNat]?) (List.range xs.size)).toArray = xs.toList.reverse.toArray := by
  congr 1
  apply List.ext_getElem?
  intro i
  have key : List.filterMap (fun k : Nat => xs[(((xs.size : Nat) : Int) - 1 + (k : Int) * -1).toNat]?) (List.range xs.size) = (List.range xs.size).map (fun k => xs.getD (xs.size - 1 - k) .none) := by
    refine fm_map _ _ _ fun k hk => ?_
    have hk := List.mem_range.mp hk
    have e : (((xs.size : Nat) : Int) - 1 + (k : Int) * -1).toNat = xs.size - 1 - k := by omega
    rw [e]
    have hlt : xs.size - 1 - k < xs.size := by omega
    rw [Array.getElem?_eq_getElem hlt]
    simp [Array.getD, hlt]
  rw [key, List.getElem?_map]
  by_cases hi : i < xs.size
  · rw [List.getElem?_range hi, List.getElem?_reverse (by rw [Array.length_toList]; exact hi)]
    have hlt : xs.size - 1 - i < xs.size := by omega
    rw [Array.length_toList, Array.getElem?_toList, Array.getElem?_eq_getElem hlt]
    simp [Array.getD, hlt]
  · rw [List.getElem?_eq_none (by rw [List.length_range]; omega), List.getElem?_eq_none (by rw [List.length_reverse, Array.length_toList]; omega)]
    rfl
theorem getItem_tuple_rev {prog : Program} {w : World} {A : Around} {E : Value → Shared → Prop} {s : Shared} {t sl : Addr} {items : Array Value} {vl vu vs : Value} {Q : Value → Shared → Prop}
    (ht : IsTup s.heap t items) (hs : s.heap.IsSliceOf sl vl vu vs) (pl : IsPart vl none) (pu : IsPart vu none) (ps : IsPart vs (some (-1)))
    (h : Q (.ref s.heap.objs.size) { s with heap := s.heap.push { cls := .type "tuple", data := .seq items.toList.reverse.toArray } }) (hsz : items.size ≤ sizeLine) :
    wpAny (model prog w) A (getItem (.ref t) (.ref sl)) Q E s := by
  obtain ⟨os, hos, hcs, hds⟩ := id hs
  have hTs : s.TypeIs (.ref sl) "slice" := ⟨os, hos, hcs⟩
  refine wpAny_holding (wpAny_bind (wpAny_sequenceKey ht.typeIs (by decide) (wpAny_bind (wpAny_callSpecial?_slot ht.typeIs PyProof.Rows.slot_tuple_getitem (wpAny_call_entry PyProof.Rows.slot_tuple_getitem ht.typeIs PyProof.Rows.entry_tuple_getitem ?_ (PyProof.Rows.args_tuple_getitem (.ref t) (.ref sl)))))))
  unfold Builtin.«tuple.__getitem__»
  rw [show slotArgs "__getitem__" 1 { pos := [Value.ref t, Value.ref sl] } = pure (Value.ref t, [Value.ref sl]) from rfl]
  refine wpAny_bind (wpAny_pure ?_)
  refine wpAny_bind (PyProof.Rows.tupleItemsOf_ ht (wpAny_bind (wpAny_typeOf hTs ?_)))
  rw [if_pos (by decide)]
  refine wpAny_bind (applied_rev hs pl pu ps ?_)
  show wpAny (model prog w) A.in1 (if (((items.size : Int) - 1 == 0 && (-1 : Int) == 1) && items.size == items.size) = true then _ else _) _ E s
  rw [if_neg (by simp)]
  show wpAny (model prog w) A.in1 (do let r ← Builtin.Tuple.tupleExact (List.filterMap (fun k : Nat => items[(((items.size : Nat) : Int) - 1 + (k : Int) * -1).toNat]?) (List.range items.size)).toArray; ret r) _ E s
  rw [pick_rev]
  refine wpAny_bind (wpAny_newObj_type (wpAny_pure ⟨.ref s.heap.objs.size, rfl, wpAny_pure h⟩) ?_)
  show items.toList.reverse.toArray.size ≤ sizeLine
  rw [List.size_toArray, List.length_reverse, Array.length_toList]
  exact hsz
def tRevT (K : PySem.W.Frag) (te : TE) : TE := fun σ H Q => te σ H fun x H1 => ∃ a xs, x = .ref a ∧ SqT K H1 a xs ∧ ∀ p, H1 p = none → Q (.ref p) (upd H1 p (.tup xs.reverse))
theorem pe_revT {X : Cx} {e st : Expr} {te ts : TE} {p3 pos : Pos} (K : PySem.W.Frag) (he : PE X e te) (hs : PE X st ts) (hN : ∀ σ H (Q : VK), Q (.int (-1)) H → ts σ H Q) (hK : X.K = K := by rfl) : PE X (.Subscript e (.Slice none none (some st) p3) pos) (tRevT K te) := by
  subst hK
  refine ⟨fun pins s σ H Q I h => Subscript_ (thn (he.run pins s σ H _ I h) fun v s1 ⟨x, H1, I1, r1, a, xs, ex, hx, q⟩ => ?_)⟩
  subst ex; cases r1
  refine wpAny_Slice (thn (po_none.run pins s1 σ H1 (fun o H2 => o = none ∧ H2 = H1) I1 ⟨rfl, rfl⟩) fun vl s2 ⟨l, H2, I2, pl, el, e2⟩ => ?_)
  subst el e2
  refine thn (po_none.run pins s2 σ H2 (fun o H3 => o = none ∧ H3 = H2) I2 ⟨rfl, rfl⟩) fun vu s3 ⟨u, H3, I3, pu, eu, e3⟩ => ?_
  subst eu e3
  refine thn ((po_some hs).run pins s3 σ H3 (fun o H4 => o = some (-1) ∧ H4 = H3) I3 (hN σ H3 _ ⟨-1, rfl, rfl, rfl⟩)) fun vs s4 ⟨o, H4, I4, ps, eo, e4⟩ => ?_
  subst eo e4
  have I5 : Inv X pins σ H4 { s4 with heap := s4.heap.push { cls := .type "slice", data := .fields #[vl, vu, vs] } } := I4.kept (t' := s4.toks) fun b ob q => Heap.get?_push_of_some _ q
  obtain ⟨its, r, ht, hz⟩ := I5.tuple hx
  have hlen := r.length
  show wpAny (model X.prog X.w) X.A (subscriptTail e (.Slice none none (some st) p3) (.ref a) (.ref s4.heap.objs.size)) (EP X pins σ Q) X.xe { s4 with heap := s4.heap.push { cls := .type "slice", data := .fields #[vl, vu, vs] } }
  refine tail_any (ops := [.ref a, .ref s4.heap.objs.size]) ht.typeIs (PyProof.Rows.slot_tuple_getitem.lookup) ?_ (by with_unfolding_all rfl)
  refine getItem_tuple_rev ht (Heap.IsSliceOf.new _ vl vu vs) pl pu ps ?_ (by rw [List.size_toArray]; omega)
  exact ⟨.ref _, _, I5.laid (t' := s4.toks) (o := .tup xs.reverse) (fun b ob q => Heap.get?_push_of_some _ q) (Nat.le_refl _) ⟨by rw [List.length_reverse]; exact hz, _, r.reverse, _, Heap.get?_push_size _ rfl, rfl, 0, rfl⟩, rfl, q _ (I5.hok.fresh (Nat.le_refl _))⟩
end Rv

namespace R0
open PySem PySem.Spec PyProof.Rows L2 Hb St Sq Ow En Zp RZ Rd Xb Da
local macro_rules | `(tactic| walk_at "sd") => `(tactic| (first
  | decide
  | exact ⟨by decide, by decide⟩
  | exact ⟨by decide, by decide, by decide⟩
  | exact Or.inl ⟨by decide, by decide⟩
  | exact Or.inr ⟨by decide, by decide⟩
  | exact divw (by decide) (by decide)
  | exact divw (by omega) (by omega)
  | exact Or.inl ⟨by omega, by omega⟩
  | exact Or.inr ⟨by omega, by omega⟩
  | (show (0 : Int) < _; omega)))
local macro_rules | `(tactic| walk_at "sq") => `(tactic| (first | exact SqT.of (by assumption) | exact SqL.of (by assumption) | exact SqL.of upd_same | assumption))
local macro_rules | `(tactic| walk_at "rd") => `(tactic| repeat (first
  | refine ⟨_, rfl, ?_⟩
  | refine ⟨_, _, rfl, rfl, (by walk_at "sd"), ?_⟩
  | refine ⟨_, _, rfl, rfl, ?_⟩
  | refine ⟨_, _, _, _, rfl, rfl, (by walk_at "sq"), rfl, ?_⟩
  | refine ⟨_, _, _, _, rfl, rfl, (by first | assumption | exact upd_same), rfl, ?_⟩
  | refine ⟨_, _, rfl, Or.inl (by walk_at "sq"), ?_⟩
  | refine ⟨_, _, rfl, ?_⟩
  | refine Or.inl ⟨_, rfl, ?_⟩
  | refine ⟨rfl, ?_⟩))
def top (i : Nat) : Stmt := PySem.Challenge.pw_curvebells_k60_rooms_and_their_texts.main.body.getD i (.Pass ⟨0, 0, 0, 0⟩)
/-! ### deals -/
def DealN (H : Hp) (p l : Addr) (ns : List Int) (b : Int) : Prop := H p = some (.lst [.ref l, .int b]) ∧ H l = some (.lst (ns.map V.int)) ∧ p ≠ l ∧ ns.length ≤ 63 ∧ (∀ n ∈ ns, 0 ≤ n) ∧ 0 ≤ b ∧ b < 2 ^ 40
def DealAt (H : Hp) (p l : Addr) : Prop := ∃ ns b, DealN H p l ns b
def Kept2 (p l : Addr) (H H' : Hp) : Prop := ∀ b o, H b = some o → b ≠ p → b ≠ l → H' b = some o
theorem Kept2.refl (p l : Addr) (H : Hp) : Kept2 p l H H := fun _ _ e _ _ => e
theorem Kept2.trans {p l : Addr} {H H1 H2 : Hp} (a : Kept2 p l H H1) (b : Kept2 p l H1 H2) : Kept2 p l H H2 := fun c o e n m => b c o (a c o e n m) n m
theorem Kept2.same {p l : Addr} {H H' : Hp} (s : Same H H') : Kept2 p l H H' := fun b o e _ _ => s b o e
theorem Kept2.p {p l : Addr} {H : Hp} {o : HO} : Kept2 p l H (upd H p o) := fun b u e n _ => by rw [upd_ne n]; exact e
theorem Kept2.l {p l : Addr} {H : Hp} {o : HO} : Kept2 p l H (upd H l o) := fun b u e _ n => by rw [upd_ne n]; exact e
theorem DealAt.same {H H' : Hp} {p l : Addr} (h : DealAt H p l) (s : Same H H') : DealAt H' p l := let ⟨ns, b, a, c, r⟩ := h; ⟨ns, b, s _ _ a, s _ _ c, r⟩
theorem Kept2.fix {p l : Addr} {H H' : Hp} (k : Kept2 p l H H') (d : DealAt H p l) : Fix H H' := fun b o e n => by
  obtain ⟨ns, bb, h1, h2, _⟩ := d
  exact k b o e (fun z => n (by rw [z, h1] at e; exact .inl ⟨_, (Option.some.inj e).symm⟩)) fun z => n (by rw [z, h2] at e; exact .inl ⟨_, (Option.some.inj e).symm⟩)
section
variable {K : PySem.W.Frag} {H : Hp} {Q : VK}
theorem dp_ints : ∀ ns : List Int, DpAll K H (ns.map V.int) (ns.map PyData.int)
  | [] => .nil
  | n :: ns => .cons (.int n) (dp_ints ns)
theorem shp_ints (ns : List Int) : SeqAt.shaped (.list (ns.map PyData.int)) = true := (sh_lst (n := 0) fun x _ => sh_int 0 x).ok (by decide)
theorem eqv_nil (ns : List Int) : PyData.eqv (.list (ns.map PyData.int)) (.list []) = decide (ns = []) := eqvAll_map eqv_int ns []
theorem rd_neNil {l t : Addr} {ns : List Int} (hl : SqL K H l (ns.map V.int)) (ht : SqL K H t []) (q : Q (.bl (!decide (ns = []))) H) : rNeD K (.ref l) (.ref t) H Q :=
  ⟨_, _, .lst hl (dp_ints ns), .lst ht .nil, shp_ints ns, shp_ints [], by rw [eqv_nil]; exact q⟩
end
theorem abs_nn (i : Int) : 0 ≤ (if i < 0 then -i else i) := by
  by_cases h : i < 0
  · rw [if_pos h]; omega
  · rw [if_neg h]; omega
theorem cut_int (ns : List Int) (lo hi : Option Int) : ∃ ms : List Int, cutV (ns.map V.int) lo hi = ms.map V.int ∧ ms.length ≤ ns.length := by
  unfold cutV
  rw [List.length_map]
  refine ⟨_, by rw [List.map_drop.symm, List.map_take.symm], ?_⟩
  rw [List.length_take, List.length_drop]
  omega
section
variable {P : Program} {w : World} {K : PySem.W.Frag} {mg : Str → Option Value} {base : Heap}
theorem pe_revK {X : Cx} {e st : Expr} {te ts : TE} {p3 pos : Pos} (K : PySem.W.Frag) (he : PE X e te) (hs : PE X st ts) (hN : ∀ σ H (Q : VK), Q (.int (-1)) H → ts σ H Q) (hK : X.K = K := by rfl) : PE X (.Subscript e (.Slice none none (some st) p3) pos) (fun σ H Q => te σ H fun x H1 => ∃ a xs, x = .ref a ∧ SqL K H1 a xs ∧ ∀ p, H1 p = none → Q (.ref p) (upd H1 p (.lst xs.reverse))) := by
  subst hK
  exact pe_rev he hs hN
/-! ### _law_deal -/
abbrev s__law_deal : Stmt := top 30
theorem sc__law_deal : FnScope ["script", "base", "cell", "cells", "blend"] ["script", "base"] (defScope s__law_deal) := ⟨rfl, rfl, rfl, by decide +kernel, rfl, by decide +kernel, by decide +kernel⟩
def spDeal (K : PySem.W.Frag) : Sp := fun vs H Q _ => ∃ (a : Addr) (ns : List Int), vs = [.ref a, .int 0] ∧ SqL K H a (ns.map V.int) ∧ ns.length ≤ 63 ∧ ∀ p l H', H p = none → H l = none → Same H H' → DealAt H' p l → Q (.ref p) H'
theorem ok_deal {f : Addr} {fd : FuncData} (F : Fun K "_law_deal" "_law_deal" s__law_deal f fd) (n_abs : mg "abs" = none) (n_int : mg "int" = none) : FnOk P w K mg base CX0 1 f fd ["script", "base"] (spDeal K) := by
  refine F.ok sc__law_deal (fun vs H Q E h => ?_) (fun cdv A outer s H vs Q E hr h => ?_)
  · obtain ⟨_, _, rfl, _⟩ := h
    rfl
  · obtain ⟨a, ns, rfl, hs, hl, q⟩ := h
    refine ⟨_, (Evl.pss_cut (ps_setLc (i := 3) (own := [("cell", 2)]) (g := gName 2) (by rfl) sc__law_deal.nd rfl rfl (sw_true rfl rfl rfl (by decide +kernel)) (pi_seq (pe_slice (r := rSlL K) sl_list (pv 0) (po_some (pv 1)) (po_some pe_int))) (blkOk_by (N := ["script", "base", "cell", "cells", "blend"]) (sc := defScope s__law_deal) (by decide +kernel)) (fun _ _ _ _ _ => pg_name (i := 2) sc__law_deal.nd rfl (Or.inl rfl)) (fun _ _ _ _ _ => pts_nil) (fun _ _ _ _ _ => pe_callB call_abs (by rfl) n_abs (by decide +kernel) (pa_cons (pe_callTy call_int1 (by rfl) n_int (by decide +kernel) (pa_cons (pv 2) pa_nil)) pa_nil)))
    (pss_cons (ps_set (i := 4) sc__law_deal.nd rfl (Or.inl rfl) (pe_op op_add pe_int (pe_op op_mul pe_int (pv 1))))
    (Evl.pss_cut (ps_for PassesOwn.never rfl (pi_seq (pv 3)) (pg_name (i := 2) sc__law_deal.nd rfl (Or.inl rfl))
      (pss_one (ps_set (i := 4) sc__law_deal.nd rfl (Or.inl rfl) (pe_op op_mod (pe_callTy call_int1 (by rfl) n_int (by decide +kernel) (pa_cons (pe_op op_add (pe_op op_add (pe_op op_mul (pv 4) pe_int) (pe_op op_mod (pe_callTy call_int1 (by rfl) n_int (by decide +kernel) (pa_cons (pv 2) pa_nil)) pe_int)) pe_int) pa_nil)) pe_int))))
    (pss_one (ps_ret (pe_lst (pa_cons (pe_revK K (pe_lc (own := [("cell", 2)]) (g := gName 2) rfl sc__law_deal.nd (pi_seq (pv 3)) (blkOk_by (N := ["script", "base", "cell", "cells", "blend"]) (sc := defScope s__law_deal) (by decide +kernel)) (fun _ _ _ _ _ => pg_name (i := 2) sc__law_deal.nd rfl (Or.inl rfl)) (fun _ _ _ _ _ => pts_one (pt_cmpR op_ge (pv 2) (pe_op op_pow pe_int pe_int) (nomark _))) (fun _ _ _ _ _ => pv 2)) (pe_un un_neg pe_int) (fun _ _ _ q => ⟨1, rfl, q⟩)) (pa_cons (pv 4) pa_nil)))))))), ?_⟩
    refine ⟨fun σ H' => ∃ (c : Addr) (o : Option V) (ms : List Int), σ = [some (.ref a), some (.int 0), o, some (.ref c), none] ∧ Same H H' ∧ H' c = some (.lst (ms.map V.int)) ∧ ms.length ≤ 63 ∧ ∀ m ∈ ms, 0 ≤ m, ?_, ?_⟩
    · refine ⟨_, rfl, _, rfl, 0, rfl, 52, rfl, a, _, rfl, hs, fun p hp => ?_⟩
      have s1 := same_new hp (.lst (cutV (ns.map V.int) (some 0) (some 52)))
      obtain ⟨ms, em, lm⟩ := cut_int ns (some 0) (some 52)
      have e1 : (upd H p (.lst (cutV (ns.map V.int) (some 0) (some 52)))) p = some (.lst (ms.map V.int)) := by rw [upd_same, em]
      generalize upd H p (.lst (cutV (ns.map V.int) (some 0) (some 52))) = H1 at s1 e1 ⊢
      refine ⟨p, _, rfl, SqX.lst e1, fun J S W k D hD => ?_⟩
      refine lc_mf (ds := ms) W (fun _ => true) (fun _ y i => y = .int (if i < 0 then -i else i)) k hD (by rw [List.length_map]) (fun i x z H4 ex ez s4 m => ?_) (fun H4 ys s4 e al => ?_)
      · obtain rfl := at_map ex ez
        exact ⟨rfl, _, rfl, .inl ⟨z, rfl, z, rfl, mf_yes m hD (fun _ _ _ _ _ h => h) ez (by omega) (Same.refl _) rfl rfl⟩⟩
      · rw [Rd.filter_all] at al
        obtain rfl := al.map_eq fun _ _ h => h
        refine ⟨D, _, ms.map fun i => if i < 0 then -i else i, rfl, s1.trans s4, by rw [List.map_map]; exact e, by rw [List.length_map]; omega, fun m hm => ?_⟩
        obtain ⟨i, _, rfl⟩ := List.mem_map.mp hm
        exact abs_nn i
    rintro σ H1 ⟨c, o, ms, rfl, s1, e1, lm, pm⟩
    walk_at "rd"
    refine ⟨fun σ H' => ∃ o b, σ = [some (.ref a), some (.int 0), o, some (.ref c), some (.int b)] ∧ H' = H1 ∧ 0 ≤ b ∧ b < 2 ^ 40, ?_, ?_⟩
    · refine ⟨_, rfl, c, _, rfl, SqX.lst e1, fun J S W k => ?_⟩
      refine for_sq W (fun i σ H' => ∃ o b, σ = [some (.ref a), some (.int 0), o, some (.ref c), some (.int b)] ∧ H' = H1 ∧ 0 ≤ b ∧ b < 2 ^ 40) ⟨_, _, rfl, rfl, by decide, by decide⟩ (fun i σ H' p => ?_) ?_ ?_
      · obtain ⟨_, _, _, rfl, _⟩ := p
        exact k
      · rintro i σ H2 x ex ⟨o, b, rfl, rfl, b0, b1⟩
        obtain ⟨z, ez⟩ : ∃ z, ms[i]? = some z := ⟨_, List.getElem?_eq_getElem (by have := (List.getElem?_eq_some_iff.mp ex).1; rwa [List.length_map] at this)⟩
        obtain rfl := at_map ex ez
        walk_at "rd"
        exact ⟨Int.emod_nonneg _ (by decide), by omega⟩
      · rintro σ H2 ⟨o, b, rfl, rfl, b0, b1⟩
        exact ⟨o, b, rfl, rfl, b0, b1⟩
    rintro σ H2 ⟨o2, b, rfl, rfl, b0, b1⟩
    refine ⟨_, rfl, c, _, rfl, SqX.lst e1, fun J S W k D hD => ?_⟩
    refine lc_mf (ds := ms) W (fun m => decide ((10 ^ 18 : Int) ≤ m)) (fun _ y i => y = .int i) k hD (by rw [List.length_map]) (fun i x z H4 ex ez s4 m => ?_) (fun H4 ys s4 e al => ?_)
    · obtain rfl := at_map ex ez
      refine ⟨rfl, _, rfl, _, _, rfl, rfl, ⟨by decide, by decide, by decide⟩, _, _, rfl, rfl, _, rfl, ?_⟩
      refine iteD (fun c => ⟨_, rfl, mf_yes m hD (fun _ _ _ _ _ h => h) ez (by omega) (Same.refl _) (decide_eq_true c) rfl⟩) fun c => mf_no m (fun _ _ _ _ _ h => h) ez (Same.refl _) (decide_eq_false c)
    · obtain rfl := al.map_eq fun _ _ h => h
      refine ⟨D, _, rfl, SqL.of e, fun p hp => ?_⟩
      have s5 := same_new hp (.lst ((ms.filter fun m => decide ((10 ^ 18 : Int) ≤ m)).map V.int).reverse)
      refine ⟨_, rfl, by show 2 ≤ sizeLine; decide, fun d hd => ?_⟩
      have s6 := same_new hd (.lst [.ref p, .int b])
      have s26 := ((s1.trans s4).trans s5).trans s6
      have hpH : H p = none := by
        cases h : H p with
        | none => rfl
        | some o => exact absurd rfl (ne_of_none ((s1.trans s4) _ _ h) hp)
      have hdH : H d = none := by
        cases h : H d with
        | none => rfl
        | some o => exact absurd rfl (ne_of_none (((s1.trans s4).trans s5) _ _ h) hd)
      refine q d p _ hdH hpH s26 ⟨(ms.filter fun m => decide ((10 ^ 18 : Int) ≤ m)).reverse, b, upd_same, ?_, (ne_of_none (upd_same (H := H4) (o := .lst ((ms.filter fun m => decide ((10 ^ 18 : Int) ≤ m)).map V.int).reverse)) hd).symm, ?_, fun n hn => ?_, b0, b1⟩
      · rw [s6 _ _ (show upd H4 p (.lst ((ms.filter fun m => decide ((10 ^ 18 : Int) ≤ m)).map V.int).reverse) p = _ from upd_same), List.map_reverse]
      · rw [List.length_reverse]
        exact Nat.le_trans (List.length_filter_le _ _) lm
      · exact pm n (List.mem_filter.mp (List.mem_reverse.mp hn)).1
theorem last_at (ms : List Int) (z : Int) : (ms.map V.int ++ [V.int z])[(ms.map V.int ++ [V.int z]).length - 1]? = some (V.int z) := by
  rw [List.length_append, List.length_singleton, Nat.add_sub_cancel, List.getElem?_append_right (Nat.le_refl _), Nat.sub_self]; rfl
/-! ### _law_draw -/
abbrev s__law_draw : Stmt := top 31
theorem sc__law_draw : FnScope ["deal", "bound", "rest"] ["deal", "bound"] (defScope s__law_draw) := ⟨rfl, rfl, rfl, by decide +kernel, rfl, by decide +kernel, by decide +kernel⟩
def spDraw : Sp := fun vs H Q _ => ∃ (p l : Addr) (many : Int), vs = [.ref p, .int many] ∧ (1 ≤ many ∧ many < 2 ^ 30) ∧ DealAt H p l ∧ ∀ d H', 0 ≤ d → d < many → Kept2 p l H H' → DealAt H' p l → Q (.int d) H'
theorem ok_draw {f : Addr} {fd : FuncData} (F : Fun K "_law_draw" "_law_draw" s__law_draw f fd) (n_int : mg "int" = none) : FnOk P w K mg base CX0 1 f fd ["deal", "bound"] spDraw := by
  refine F.ok sc__law_draw (fun vs H Q E h => ?_) (fun cdv A outer s H vs Q E hr h => ?_)
  · obtain ⟨_, _, _, rfl, _⟩ := h
    rfl
  · obtain ⟨p, l, many, rfl, hm, ⟨ns0, b, hd0⟩, q⟩ := h
    refine ⟨_, (Evl.pss_cut (ps_while PassesOwn.never (PW.pt (pw_and (pt_cmpR (op_neD hr.units) (pe_ix ix_list (pv 0) pe_int (fun _ _ => rfl)) (pe_lst pa_nil) (nomark _)) (pw_and1 (pt_cmpR op_eq (pe_ix ix_list (pe_ix ix_list (pv 0) pe_int (fun _ _ => rfl)) (pe_un un_neg pe_int) (fun _ _ => rfl)) pe_int (nomark _)))))
      (pss_one (ps_expr (pe_bm0 PySem.F.plainAttrs_list PySem.F.slot_list_pop PySem.F.type_list_pop mt_pop (pe_ix ix_list (pv 0) pe_int (fun _ _ => rfl))))))
    (Evl.pss_cut (ps_if (pt_cmpR (op_neD hr.units) (pe_ix ix_list (pv 0) pe_int (fun _ _ => rfl)) (pe_lst pa_nil) (nomark _)) (pss_cons (ps_set (i := 2) sc__law_draw.nd rfl (Or.inl rfl) (pe_bm0 PySem.F.plainAttrs_list PySem.F.slot_list_pop PySem.F.type_list_pop mt_pop (pe_ix ix_list (pv 0) pe_int (fun _ _ => rfl))))
    (pss_cons (ps_expr (pe_bm PySem.F.plainAttrs_list PySem.F.slot_list_append PySem.F.type_list_append mt_append (pe_ix ix_list (pv 0) pe_int (fun _ _ => rfl)) (pa_cons (pe_op op_fdivW (pv 2) (pv 1)) pa_nil)))
    (pss_one (ps_ret (pe_op op_mod (pe_callTy call_int1 (by rfl) n_int (by decide +kernel) (pa_cons (pv 2) pa_nil)) (pv 1)))))) pss_nil)
    (pss_cons (ps_asg (pe_op op_mod (pe_callTy call_int1 (by rfl) n_int (by decide +kernel) (pa_cons (pe_op op_add (pe_op op_mul (pe_ix ix_list (pv 0) pe_int (fun _ _ => rfl)) pe_int) pe_int) pa_nil)) pe_int) (pg_sub (pv 0) pe_int set_list))
    (pss_one (ps_ret (pe_op op_mod (pe_callTy call_int1 (by rfl) n_int (by decide +kernel) (pa_cons (pe_op op_fdivW (pe_ix ix_list (pv 0) pe_int (fun _ _ => rfl)) pe_int) pa_nil)) (pv 1))))))), ?_⟩
    refine ⟨fun σ H' => σ = [some (.ref p), some (.int many), none] ∧ Kept2 p l H H' ∧ ∃ ns, DealN H' p l ns b, ?_, ?_⟩
    · refine ⟨fun m σ H' => σ = [some (.ref p), some (.int many), none] ∧ Kept2 p l H H' ∧ ∃ ns, ns.length = m ∧ DealN H' p l ns b, ⟨_, rfl, Kept2.refl _ _ _, ns0, rfl, hd0⟩, ?_⟩
      rintro m σ H1 ⟨rfl, k1, ns, lm, hp, hl, npl, ln, pn, b0, b1⟩
      refine ⟨_, rfl, p, _, _, _, rfl, rfl, SqL.of hp, at0, by show 0 ≤ sizeLine; decide, fun t ht => ?_⟩
      have s2 := same_new ht (.lst [])
      have hp2 := s2 _ _ hp
      have hl2 := s2 _ _ hl
      refine rd_neNil (SqL.of hl2) (SqL.of upd_same) ?_
      have k2 := k1.trans (Kept2.same (p := p) (l := l) s2)
      refine ⟨_, rfl, ?_⟩
      rcases List.eq_nil_or_concat ns with e | ⟨ms, z, e⟩
      · subst e
        exact iteF ⟨rfl, k2, [], hp2, hl2, npl, ln, pn, b0, b1⟩
      rw [List.concat_eq_append] at e
      subst e
      rw [decide_eq_false (by simp)]
      have em : (ms ++ [z]).map V.int = ms.map V.int ++ [V.int z] := by rw [List.map_append]; rfl
      rw [em] at hl2
      generalize upd H1 t (.lst []) = H2 at s2 hp2 hl2 k2 ⊢
      refine iteT ⟨_, rfl, p, _, _, _, rfl, rfl, SqL.of hp2, at0, 1, rfl, l, _, _, _, rfl, rfl, SqL.of hl2, at_last, rfl, _, rfl, ?_⟩
      refine iteD (fun c => ?_) fun c => ⟨rfl, k2, ms ++ [z], hp2, em ▸ hl2, npl, ln, pn, b0, b1⟩
      refine ⟨fun σ H' => σ = [some (.ref p), some (.int many), none] ∧ Kept2 p l H H' ∧ ∃ ns, ns.length < m ∧ DealN H' p l ns b, fun σ' H' ⟨e1, e2, ns, e3, e4⟩ => ⟨ns.length, e3, e1, e2, ns, rfl, e4⟩, ?_⟩
      refine ⟨_, rfl, p, _, _, _, rfl, rfl, SqL.of hp2, at0, .inl ⟨rfl, _, SqL.of hl2⟩, l, _, .int z, rfl, rfl, hl2, last_at _ _, rfl, k2.trans Kept2.l, ms, by rw [← lm]; simp, ?_⟩
      rw [List.dropLast_concat]
      exact ⟨by rw [upd_ne npl]; exact hp2, upd_same, npl, by simp at ln; omega, fun n hn => pn n (List.mem_append_left _ hn), b0, b1⟩
    rintro σ H1 ⟨rfl, k1, ns, hp, hl, npl, ln, pn, b0, b1⟩
    have lp := npl.symm
    refine ⟨fun σ H' => σ = [some (.ref p), some (.int many), none] ∧ Kept2 p l H H' ∧ ∃ ns, DealN H' p l ns b, ?_, ?_⟩
    · refine ⟨_, rfl, p, _, _, _, rfl, rfl, SqL.of hp, at0, by show 0 ≤ sizeLine; decide, fun t ht => ?_⟩
      have s2 := same_new ht (.lst [])
      have hp2 := s2 _ _ hp
      have hl2 := s2 _ _ hl
      refine rd_neNil (SqL.of hl2) (SqL.of upd_same) ?_
      have k2 := k1.trans (Kept2.same (p := p) (l := l) s2)
      refine ⟨_, rfl, ?_⟩
      rcases List.eq_nil_or_concat ns with e | ⟨ms, z, e⟩
      · subst e
        exact iteF ⟨rfl, k2, [], hp2, hl2, npl, ln, pn, b0, b1⟩
      rw [List.concat_eq_append] at e
      subst e
      rw [decide_eq_false (by simp)]
      have em : (ms ++ [z]).map V.int = ms.map V.int ++ [V.int z] := by rw [List.map_append]; rfl
      rw [em] at hl2
      generalize upd H1 t (.lst []) = H2 at s2 hp2 hl2 k2 ⊢
      have z0 : 0 ≤ z := pn z (by simp)
      refine iteT ⟨_, rfl, p, _, _, _, rfl, rfl, SqL.of hp2, at0, .inl ⟨rfl, _, SqL.of hl2⟩, l, _, .int z, rfl, rfl, hl2, last_at _ _, ?_⟩
      rw [List.dropLast_concat]
      have hp3 : upd H2 l (.lst (ms.map V.int)) p = some (.lst [.ref l, .int b]) := by rw [upd_ne npl]; exact hp2
      have hl3 : upd H2 l (.lst (ms.map V.int)) l = some (.lst (ms.map V.int)) := upd_same
      have k3 := k2.trans (Kept2.l (p := p) (l := l) (H := H2) (o := .lst (ms.map V.int)))
      generalize upd H2 l (.lst (ms.map V.int)) = H3 at hp3 hl3 k3 ⊢
      have lms : ms.length + 1 ≤ 63 := by simpa using ln
      refine ⟨_, rfl, p, _, _, _, rfl, rfl, SqL.of hp3, at0, .inl ⟨rfl, _, SqL.of hl3⟩, _, rfl, _, rfl, _, _, rfl, rfl, divw (by omega) (by omega), l, _, _, rfl, rfl, hl3, by rw [List.length_map, sizeLine_eq]; omega, ?_⟩
      refine ⟨_, rfl, .inl ⟨_, rfl, _, rfl, _, _, rfl, rfl, (by show (0 : Int) < _; omega), ?_⟩⟩
      refine q _ _ (Int.emod_nonneg _ (by omega)) (Int.emod_lt_of_pos _ (by omega)) (k3.trans Kept2.l) ⟨ms ++ [z / many], b, by rw [upd_ne npl]; exact hp3, by rw [upd_same, List.map_append]; rfl, npl, by simp; omega, fun n hn => ?_, b0, b1⟩
      rcases List.mem_append.mp hn with h | h
      · exact pn n (List.mem_append_left _ h)
      · rw [List.mem_singleton.mp h]; exact Int.ediv_nonneg z0 (by omega)
    rintro σ H2 ⟨rfl, k2, ns2, hp2, hl2, _, ln2, pn2, b0, b1⟩
    refine ⟨_, rfl, p, _, _, _, rfl, rfl, SqL.of hp2, at1, ?_⟩
    walk_at "rd"
    exact q _ _ (Int.emod_nonneg _ (by omega)) (Int.emod_lt_of_pos _ (by omega)) (k2.trans Kept2.p) ⟨ns2, (b * 40699 + 67) % 2147483647, upd_same, by rw [upd_ne lp]; exact hl2, npl, ln2, pn2, Int.emod_nonneg _ (by decide), by omega⟩
end
end R0

namespace R0
open PySem PySem.Spec PyProof.Rows L2 Hb St Sq Ow En Zp RZ Rd Xb Da
section
variable {P : Program} {w : World} {K : PySem.W.Frag} {mg : Str → Option Value} {base : Heap}
/-! ### _law_pick -/
abbrev s__law_pick : Stmt := top 32
theorem sc__law_pick : FnScope ["deal", "some"] ["deal", "some"] (defScope s__law_pick) := ⟨rfl, rfl, rfl, by decide +kernel, rfl, by decide +kernel, by decide +kernel⟩
def spPick (K : PySem.W.Frag) : Sp := fun vs H Q _ => ∃ (p l s : Addr) (xs : List V), vs = [.ref p, .ref s] ∧ DealAt H p l ∧ (∀ H', Kept2 p l H H' → SqX K H' s xs) ∧ (1 ≤ xs.length ∧ xs.length ≤ 1000) ∧ ∀ x H', x ∈ xs → Kept2 p l H H' → DealAt H' p l → Q x H'
theorem ok_pick {f : Addr} {fd : FuncData} (F : Fun K "_law_pick" "_law_pick" s__law_pick f fd) (C__law_draw : Cl P w K mg base "_law_draw" ["deal", "bound"] [] 1 spDraw) (n_len : mg "len" = none) : FnOk P w K mg base CX0 2 f fd ["deal", "some"] (spPick K) := by
  refine F.ok sc__law_pick (fun vs H Q E h => ?_) (fun cdv A outer s H vs Q E hr h => ?_)
  · obtain ⟨_, _, _, _, rfl, _⟩ := h
    rfl
  · obtain ⟨p, l, s, xs, rfl, hd, hs, hn, q⟩ := h
    refine ⟨_, (pss_one (ps_ret (pe_ix (r := rIx K) ix_seq (pv 1) (pe_use C__law_draw (hr.mono (by decide)) rfl (pa_cons (pv 0) (pa_cons (pe_callB call_len_seq (by rfl) n_len PySem.boot_len (pa_cons (pv 1) pa_nil)) pa_nil))) (fun _ _ => rfl)))), ?_⟩
    have len : ∃ p' ys, [V.ref s] = [V.ref p'] ∧ (SqL K H p' ys ∨ SqT K H p' ys) ∧ ys = xs := ⟨s, xs, rfl, hs H (Kept2.refl _ _ _), rfl⟩
    refine ⟨_, rfl, _, rfl, _, rfl, s, xs, rfl, hs H (Kept2.refl _ _ _), p, l, _, rfl, ?_, hd, fun d H' d0 d1 k b => ?_⟩
    · omega
    · have hdn : d.toNat < xs.length := by omega
      have e : d = ((d.toNat : Nat) : Int) := by omega
      obtain ⟨x, hx⟩ : ∃ x, xs[d.toNat]? = some x := ⟨_, List.getElem?_eq_getElem hdn⟩
      have hat : atI xs d = some x := by rw [e]; exact at_nat hx
      have qq := q _ H' (List.mem_of_getElem? hx) k b
      rcases hs H' k with hs | hs
      · exact .inl ⟨s, _, d, x, rfl, rfl, hs, hat, qq⟩
      · exact .inr (.inl ⟨s, _, d, x, rfl, rfl, hs, hat, qq⟩)
end
end R0


namespace Kw
open PySem PySem.Spec PyProof.Rows L2 Hb Ow
/-- repr of a bool -/
theorem call_repr_bl {X : Cx} : CallR X (.builtin "repr") (fun xs H Q => ∃ b : Bool, xs = [.bl b] ∧ Q (.str (if b then "True" else "False")) H) := by
  intro pins s σ H xs us Q I r h
  obtain ⟨b, rfl, q⟩ := h
  obtain ⟨u, rfl, rx⟩ := vals1 r
  obtain rfl : u = Value.bool b := rx
  exact PySem.P.repr_of_bool ⟨.str _, H, I.tok _, ⟨_, rfl⟩, q⟩
theorem vals_app {a b : List V} {x y : List Value} (h : Vals a x) (k : Vals b y) : Vals (a ++ b) (x ++ y) := by
  induction h with
  | nil => exact k
  | cons r _ ih => exact .cons r ih
theorem vals_rev {a : List V} {x : List Value} (h : Vals a x) : Vals a.reverse x.reverse := by
  induction h with
  | nil => exact .nil
  | cons r _ ih => rw [List.reverse_cons, List.reverse_cons]; exact vals_app ih (.cons r .nil)
/-- a def without defaults, all parameters by name, from the last one to the first -/
theorem kb_rev {K : PySem.W.Frag} {x qual : Str} {st : Stmt} {f : Addr} {fd : FuncData} {ps ks : List Str} (F : Fun K x qual st f fd)
    (h : ∀ (kV doc pm : Value) (an : Option Addr) (cdv ct : Value) (ws : List Value), ws.length = ks.length → bindArgs (PySem.W.fnOf x qual (defArgs st) (defBody st) (defScope st) .none kV doc pm an cdv ct) ⟨[], ks.zip ws⟩ = pure (ps.zip ws.reverse)) : KBn K fd ps 0 ks (fun _ ws => ws.reverse) (fun _ zs => zs.reverse) := by
  obtain ⟨oc, od, kV, doc, pm, an, cdv, ct, osl, rfl, lk, hcd⟩ := F.ex
  refine ⟨fun s us ws X l1 l2 => ?_, fun r1 r2 => vals_rev r2⟩
  obtain rfl := List.eq_nil_of_length_eq_zero l1
  exact .of_eq (h kV doc pm an cdv ct ws l2)
end Kw

namespace R0
open PySem PySem.Spec PyProof.Rows L2 Hb St Sq Ow En Zp RZ Rd Xb Da
/-! ### any values, by their data -/
def tyD : PyData → Value
  | .none => .type "NoneType"
  | .bool _ => .type "bool"
  | .int _ => .type "int"
  | .str _ => .type "str"
  | .list _ => .type "list"
  | .tuple _ => .type "tuple"
  | _ => .type "dict"
theorem ty_lst {K : PySem.W.Frag} {H : Hp} {a : Addr} {xs : List V} (h : SqL K H a xs) : TyX K H (.ref a) (.type "list") := by
  rcases h with (e | ⟨o, e⟩) | ⟨o, its, n, e, c, _⟩
  · exact .base (.lst e)
  · exact .base (.frz e)
  · exact .kList e c
theorem ty_tup {K : PySem.W.Frag} {H : Hp} {a : Addr} {xs : List V} (h : SqT K H a xs) : TyX K H (.ref a) (.type "tuple") := by
  rcases h with (e | ⟨o, e⟩) | ⟨o, its, n, e, c, _⟩
  · exact .base (.tup e)
  · exact .fTuple e
  · exact .kTuple e c
theorem ty_dp {K : PySem.W.Frag} {H : Hp} {v : V} {d : PyData} (h : Dp K H v d) : TyX K H v (tyD d) := by
  cases h with
  | non => exact .base .non
  | bl b => exact .base (.bl b)
  | int i => exact .base (.int i)
  | str x => exact .base (.str x)
  | lst h _ => exact ty_lst h
  | tup h _ => exact ty_tup h
def isStrD : PyData → Bool
  | .str _ => true
  | _ => false
def isTupD : PyData → Bool
  | .tuple _ => true
  | _ => false
theorem kit_str {K : PySem.W.Frag} {H : Hp} {v : V} {d : PyData} (h : Dp K H v d) : PySem.W.kitOne K (tyD d) (.type "str") = some (isStrD d) := by
  cases h with
  | non => exact kit_ty (a := "NoneType") (b := "str") (r := false) (by decide +kernel)
  | bl b => exact kit_ty (a := "bool") (b := "str") (r := false) (by decide +kernel)
  | int i => exact kit_ty (a := "int") (b := "str") (r := false) (by decide +kernel)
  | str x => exact kit_ty (a := "str") (b := "str") (r := true) (by decide +kernel)
  | lst _ _ => exact kit_ty (a := "list") (b := "str") (r := false) (by decide +kernel)
  | tup _ _ => exact kit_ty (a := "tuple") (b := "str") (r := false) (by decide +kernel)
theorem kit_tup {K : PySem.W.Frag} {H : Hp} {v : V} {d : PyData} (h : Dp K H v d) : PySem.W.kitOne K (tyD d) (.type "tuple") = some (isTupD d) := by
  cases h with
  | non => exact kit_ty (a := "NoneType") (b := "tuple") (r := false) (by decide +kernel)
  | bl b => exact kit_ty (a := "bool") (b := "tuple") (r := false) (by decide +kernel)
  | int i => exact kit_ty (a := "int") (b := "tuple") (r := false) (by decide +kernel)
  | str x => exact kit_ty (a := "str") (b := "tuple") (r := false) (by decide +kernel)
  | lst _ _ => exact kit_ty (a := "list") (b := "tuple") (r := false) (by decide +kernel)
  | tup _ _ => exact kit_ty (a := "tuple") (b := "tuple") (r := true) (by decide +kernel)
theorem dpa_all {K : PySem.W.Frag} {H : Hp} : ∀ {xs : List V} {ds : List PyData}, DpAll K H xs ds → All2 (Dp K H) xs ds
  | _, _, .nil => .nil
  | _, _, .cons h t => .cons h (dpa_all t)
mutual
theorem dp_same {K : PySem.W.Frag} {H H' : Hp} (s : Same H H') : ∀ {d : PyData} {v : V}, Dp K H v d → Dp K H' v d
  | _, _, .non => .non
  | _, _, .bl b => .bl b
  | _, _, .int i => .int i
  | _, _, .str x => .str x
  | _, _, .lst h a => .lst (lstSame s h) (dpa_same s a)
  | _, _, .tup h a => .tup (tupFix (Fix.of s) h) (dpa_same s a)
theorem dpa_same {K : PySem.W.Frag} {H H' : Hp} (s : Same H H') : ∀ {ds : List PyData} {xs : List V}, DpAll K H xs ds → DpAll K H' xs ds
  | _, _, .nil => .nil
  | _, _, .cons h t => .cons (dp_same s h) (dpa_same s t)
end
/-- whether a text is a name -/
def nmB (x : Str) : Bool := decide (x.length ≤ 8) && (Txt.isascii x && (Txt.isalpha x && Txt.islower x))
def nmD : PyData → Bool
  | .str x => nmB x
  | _ => false
/-- texts that are short -/
def ShortD : PyData → Prop
  | .str x => x.length ≤ 1000
  | _ => True
theorem inV_strs (x : Str) (ns : List Str) : inV (.str x) (ns.map V.str) = decide (x ∈ ns) := by
  unfold inV
  rw [List.any_map]
  induction ns with
  | nil => simp
  | cons y r ih =>
    rw [List.any_cons, ih]
    show (eqV (.str y) (.str x) || decide (x ∈ r)) = _
    have e : eqV (.str y) (.str x) = decide (x = y) := by
      show decide (_ = _) = _
      exact decide_eq_decide.mpr ⟨fun h => h.symm, fun h => h.symm⟩
    rw [e]
    simp [List.mem_cons]
theorem flat_strs (ns : List Str) : (ns.map V.str).all flatV = true := by rw [List.all_map]; exact List.all_eq_true.mpr fun _ _ => rfl
theorem in_strs {K : PySem.W.Frag} {H : Hp} {a : Addr} {ns : List Str} {x : Str} {Q : VK} (h : SqX K H a (ns.map V.str)) (q : Q (.bl (decide (x ∈ ns))) H) : rIn K false (.str x) (.ref a) H Q :=
  ⟨a, _, rfl, h, rfl, flat_strs ns, by rw [inV_strs]; exact q⟩
section
variable {P : Program} {w : World} {K : PySem.W.Frag} {mg : Str → Option Value} {base : Heap}
/-! ### is_name -/
abbrev s_is_name : Stmt := top 12
theorem sc_is_name : FnScope ["value"] ["value"] (defScope s_is_name) := ⟨rfl, rfl, rfl, by decide +kernel, rfl, by decide +kernel, by decide +kernel⟩
def spIsName (K : PySem.W.Frag) : Sp := fun vs H Q _ => ∃ (v : V) (d : PyData), vs = [v] ∧ Dp K H v d ∧ ShortD d ∧ Q (.bl (nmD d)) H
theorem ok_is_name {f : Addr} {fd : FuncData} (F : Fun K "is_name" "is_name" s_is_name f fd) {tk : Tok} (g_LETTERS : mg "LETTERS" = some (.int 8 tk)) (n_isinstance : mg "isinstance" = none) (n_len : mg "len" = none) (n_str : mg "str" = none) : FnOk P w K mg base CX0 1 f fd ["value"] (spIsName K) := by
  refine F.ok sc_is_name (fun vs H Q E h => ?_) (fun cdv A outer s H vs Q E hr h => ?_)
  · obtain ⟨_, _, rfl, _⟩ := h
    rfl
  · obtain ⟨v, d, rfl, hv, sh, q⟩ := h
    refine ⟨_, (Evl.pss_cut (ps_if (PW.pt (pw_or (pt_not (pt_val (pe_callB call_isi (by rfl) n_isinstance (by decide +kernel) (pa_cons (pv 0) (pa_cons (pe_bltn (v := .ty "str") (by rfl) n_str (by decide +kernel) rfl) pa_nil))))) (pw_or1 (pt_cmpR op_gt (pe_callB call_len_str (by rfl) n_len PySem.boot_len (pa_cons (pv 0) pa_nil)) (pe_glob (v := .int 8) rfl g_LETTERS ⟨_, rfl⟩) (nomark _))))) (pss_one (ps_ret pe_bl)) pss_nil)
    (pss_one (ps_ret (pe_and (pe_bm0 PySem.F.plainAttrs_str PySem.F.slot_str_isascii PySem.F.type_str_isascii mt_isascii (pv 0)) (pe_and (pe_bm0 PySem.F.plainAttrs_str PySem.F.slot_str_isalpha PySem.F.type_str_isalpha mt_isalpha (pv 0)) (pe_one (pe_bm0 PySem.F.plainAttrs_str PySem.F.slot_str_islower PySem.F.type_str_islower mt_islower (pv 0)))))))), ?_⟩
    have ty := ty_dp hv
    have kt := kit_str hv
    cases hv with
    | str x =>
      have sh : x.length ≤ 1000 := sh
      have q : Q (.bl (nmB x)) H := q
      refine ⟨fun σ H' => σ = [some (.str x)] ∧ H' = H ∧ x.length ≤ 8, ?_, ?_⟩
      · refine ⟨_, rfl, .str x, .ty "str", _, _, _, rfl, .ty "str", ty, kt, true, rfl, iteF ?_⟩
        refine ⟨_, rfl, _, rfl, by rw [sizeLine_eq]; omega, _, _, rfl, rfl, _, rfl, ?_⟩
        by_cases c : x.length ≤ 8
        · rw [decide_eq_false (by omega)]
          exact iteF ⟨rfl, rfl, c⟩
        · rw [decide_eq_true (by omega)]
          refine iteT ?_
          have : nmB x = false := by unfold nmB; rw [decide_eq_false c]; rfl
          rw [this] at q
          exact q
      rintro σ H' ⟨rfl, rfl, c⟩
      unfold nmB at q
      rw [decide_eq_true c, Bool.true_and] at q
      refine ⟨_, rfl, rfl, _, rfl, rfl, trivial, _, rfl, ?_⟩
      cases c1 : Txt.isascii x with
      | false => rw [c1] at q; exact iteF q
      | true =>
        rw [c1, Bool.true_and] at q
        refine iteT ⟨_, rfl, rfl, _, rfl, rfl, trivial, _, rfl, ?_⟩
        cases c2 : Txt.isalpha x with
        | false => rw [c2] at q; exact iteF q
        | true =>
          rw [c2, Bool.true_and] at q
          exact iteT ⟨_, rfl, rfl, _, rfl, rfl, trivial, q⟩
    | _ =>
      exact ⟨fun _ _ => False, ⟨_, rfl, _, .ty "str", _, _, _, rfl, .ty "str", ty, kt, _, rfl, iteT q⟩, fun _ _ h => h.elim⟩
end
/-! ### lots and tales, of any data -/
def ascD : List PyData → Bool
  | .str x :: .str y :: r => decide (x.cps.toList < y.cps.toList) && ascD (.str y :: r)
  | _ => true
def lotD : PyData → Bool
  | .tuple ds => !ds.isEmpty && (ds.all nmD && ascD ds)
  | _ => false
def taleD : PyData → Bool
  | .tuple ds => ds.all lotD
  | _ => false
def ltD : PyData × PyData → Bool
  | (.str x, .str y) => decide (x.cps.toList < y.cps.toList)
  | _ => true
theorem nm_str {d : PyData} (h : nmD d = true) : ∃ x, d = .str x ∧ nmB x = true := by
  cases d with
  | str x => exact ⟨x, rfl, h⟩
  | _ => cases h
theorem asc_zip : ∀ (d : PyData) (ds : List PyData), (d :: ds).all nmD = true → (((d :: ds).zip ds).all ltD) = ascD (d :: ds)
  | d, [], h => by
    obtain ⟨x, rfl, _⟩ := nm_str (List.all_eq_true.mp h d List.mem_cons_self)
    rfl
  | d, e :: ds, h => by
    obtain ⟨x, rfl, _⟩ := nm_str (List.all_eq_true.mp h d List.mem_cons_self)
    have h' : (e :: ds).all nmD = true := by
      rw [List.all_cons, Bool.and_eq_true] at h
      exact h.2
    obtain ⟨y, rfl, _⟩ := nm_str (List.all_eq_true.mp h' e List.mem_cons_self)
    have ih := asc_zip (.str y) ds h'
    rw [List.zip_cons_cons, List.all_cons, ih]
    rfl
theorem bl_map {α : Type} {ys : List V} {ds : List α} {f : α → Bool} (h : All2 (fun (y : V) (d : α) => y = .bl (f d)) ys ds) : ys = (ds.map f).map V.bl := by
  rw [List.map_map]
  exact h.map_eq fun a b e => e
theorem at2 {α β : Type} {R : α → β → Prop} {as : List α} {bs : List β} (h : All2 R as bs) {i : Nat} {a : α} {b : β} (ha : as[i]? = some a) (hb : bs[i]? = some b) : R a b := by
  obtain ⟨b', hb', r⟩ := h.get ha
  rw [hb] at hb'
  rw [Option.some.inj hb']
  exact r
theorem all_map {α : Type} (f : α → Bool) (l : List α) : (l.map f).all id = l.all f := by
  rw [List.all_map]; rfl
section
variable {P : Program} {w : World} {K : PySem.W.Frag} {mg : Str → Option Value} {base : Heap}
/-! ### is_lot -/
abbrev s_is_lot : Stmt := top 17
theorem sc_is_lot : FnScope ["value", "one", "other", "name"] ["value"] (defScope s_is_lot) := ⟨rfl, rfl, rfl, by decide +kernel, rfl, by decide +kernel, by decide +kernel⟩
/-- data with short rows and texts -/
def Sm1 : PyData → Prop
  | .tuple ds => ds.length ≤ 1000 ∧ ∀ d ∈ ds, ShortD d
  | _ => True
def spIsLot (K : PySem.W.Frag) : Sp := fun vs H Q _ => ∃ (v : V) (d : PyData), vs = [v] ∧ Dp K H v d ∧ Sm1 d ∧ ∀ H', Same H H' → Q (.bl (lotD d)) H'
theorem ok_is_lot {f : Addr} {fd : FuncData} (F : Fun K "is_lot" "is_lot" s_is_lot f fd) (C_is_name : Cl P w K mg base "is_name" ["value"] [] 1 (spIsName K)) (n_all : mg "all" = none) (n_isinstance : mg "isinstance" = none) (n_len : mg "len" = none) (n_tuple : mg "tuple" = none) (n_zip : mg "zip" = none) : FnOk P w K mg base CX0 2 f fd ["value"] (spIsLot K) := by
  refine F.ok sc_is_lot (fun vs H Q E h => ?_) (fun cdv A outer s H vs Q E hr h => ?_)
  · obtain ⟨_, _, rfl, _⟩ := h
    rfl
  · obtain ⟨v, d, rfl, hv, sm, q⟩ := h
    refine ⟨_, (Evl.pss_cut (ps_if (PW.pt (pw_or (pt_not (pt_val (pe_callB call_isi (by rfl) n_isinstance (by decide +kernel) (pa_cons (pv 0) (pa_cons (pe_bltn (v := .ty "tuple") (by rfl) n_tuple (by decide +kernel) rfl) pa_nil))))) (pw_or (pt_cmpR op_eq (pe_callB call_len_seq (by rfl) n_len PySem.boot_len (pa_cons (pv 0) pa_nil)) pe_int (nomark _)) (pw_or1 (pt_not (pt_val (pe_callB (cr_all rfl) (by rfl) n_all (by decide +kernel) (pa_cons (pe_lc (own := [("name", 3)]) (g := gName 3) rfl sc_is_lot.nd (pi_seq (pv 0)) (blkOk_by (N := ["value", "one", "other", "name"]) (sc := defScope s_is_lot) (by decide +kernel)) (fun _ _ _ _ _ => pg_name (i := 3) sc_is_lot.nd rfl (Or.inl rfl)) (fun _ _ _ _ _ => pts_nil) (fun _ _ _ _ _ => pe_use C_is_name (hr.mono (by decide)) rfl (pa_cons (pv 3) pa_nil))) pa_nil)))))))) (pss_one (ps_ret pe_bl)) pss_nil)
    (pss_one (ps_ret (pe_callB (cr_all rfl) (by rfl) n_all (by decide +kernel) (pa_cons (pe_lc (own := [("one", 1), ("other", 2)]) (g := gTup K 2 (gCons (gName 1) (gCons (gName 2) gNil))) rfl sc_is_lot.nd (pi_zipA (by rfl) n_zip (pa_cons (pv 0) (pa_cons (pe_slice (r := rSlA K) sl_tupA (pv 0) (po_some pe_int) po_none) pa_nil))) (blkOk_by (N := ["value", "one", "other", "name"]) (sc := defScope s_is_lot) (by decide +kernel)) (fun _ _ _ _ _ => pg_tup rfl (pgs_cons (pg_name (i := 1) sc_is_lot.nd rfl (Or.inl rfl)) (pgs_cons (pg_name (i := 2) sc_is_lot.nd rfl (Or.inl rfl)) pgs_nil))) (fun _ _ _ _ _ => pts_nil) (fun _ _ _ _ _ => pe_cmpR op_lt_str (pv 1) (pv 2) (nomark _))) pa_nil))))), ?_⟩
    have ty := ty_dp hv
    have kt := kit_tup hv
    cases hv with
    | @tup a xs ds ht ha =>
      have al := dpa_all ha
      have sm : ds.length ≤ 1000 ∧ ∀ d ∈ ds, ShortD d := sm
      have hl := al.len
      have q : ∀ H', Same H H' → Q (.bl (!ds.isEmpty && (ds.all nmD && ascD ds))) H' := q
      refine ⟨fun σ H' => σ = [some (.ref a), none, none, none] ∧ Same H H' ∧ ds ≠ [] ∧ ds.all nmD = true, ?_, ?_⟩
      · refine ⟨_, rfl, _, .ty "tuple", _, _, _, rfl, .ty "tuple", ty, kt, true, rfl, iteF ?_⟩
        refine ⟨_, rfl, a, _, rfl, .inr ht, rfl, _, rfl, ?_⟩
        by_cases c : ds = []
        · subst c
          have ex : xs = [] := List.eq_nil_of_length_eq_zero (by rw [hl]; rfl)
          subst ex
          exact iteT (q _ (Same.refl _))
        · have nl : xs.length ≠ 0 := fun e => c (List.eq_nil_of_length_eq_zero (by rw [← hl]; exact e))
          rw [decide_eq_false (fun e => nl (by injection e with e; omega))]
          refine iteF ⟨_, rfl, a, _, rfl, .inr ht, fun J S W s0 D hD => ?_⟩
          refine lc_mf (ds := ds) W (fun _ => true) (fun _ y d => y = .bl (nmD d)) s0 hD hl (fun i x d H' ex ed s m => ?_) (fun H' ys s e al2 => ?_)
          · refine ⟨rfl, _, rfl, x, d, rfl, dp_same s (at2 al ex ed), sm.2 d (at_mem ed), ?_⟩
            exact mf_yes m hD (fun _ _ _ _ _ h => h) ed (by omega) (Same.refl _) rfl rfl
          · rw [Rd.filter_all] at al2
            have ey := bl_map al2
            refine ⟨D, _, rfl, SqL.of (by rw [← ey]; exact e), _, rfl, ?_⟩
            rw [all_map]
            cases c2 : ds.all nmD with
            | true => exact iteF ⟨rfl, s, c, rfl⟩
            | false =>
              have q := q H' s
              rw [c2, Bool.false_and, Bool.and_false] at q
              exact iteT q
      rintro σ H1 ⟨rfl, s1, ne, nm⟩
      cases al with
      | nil => exact absurd rfl ne
      | @cons x0 d0 xr dr r0 rr =>
      have h1 := tupFix (Fix.of s1) ht
      refine ⟨_, rfl, ?_⟩
      refine rd_slc rfl h1 fun p H2 hp s2 e2 => ?_
      have h2 := tupFix (Fix.of s2) h1
      refine ⟨a, p, _, _, rfl, .inr ⟨h2, SqT.of e2, fun D hD => ?_⟩⟩
      have aw : All2 (Dp K H) (x0 :: xr) (d0 :: dr) := .cons r0 rr
      refine lc_mp wp_tup (ds := (d0 :: dr).zip dr) (fun _ => true) (fun _ y p => y = .bl (ltD p)) ⟨h2, SqT.of e2⟩ hD (by rw [List.length_zip, List.length_zip, aw.len, rr.len]) (fun _ _ _ _ _ h => h) (fun i T pr d H3 ep ed s3 eT m => ?_) (fun H3 ys s3 e al2 => ?_)
      · obtain ⟨p1, p2⟩ := pr
        obtain ⟨d1, d2⟩ := d
        obtain ⟨ea, eb⟩ := List.getElem?_zip_eq_some.mp ep
        obtain ⟨ga, gb⟩ := List.getElem?_zip_eq_some.mp ed
        have w1 := at2 aw ea ga
        have w2 := at2 rr eb gb
        obtain ⟨x, rfl, _⟩ := nm_str (List.all_eq_true.mp nm d1 (at_mem ga))
        obtain ⟨y, rfl, _⟩ := nm_str (List.all_eq_true.mp nm d2 (List.mem_cons_of_mem _ (at_mem gb)))
        cases w1
        cases w2
        refine ⟨T, _, rfl, SqT.of eT, rfl, _, _, rfl, _, _, rfl, rfl, rfl, _, rfl, _, rfl, _, _, rfl, rfl, ?_⟩
        exact mf_yes m hD (fun _ _ _ _ _ h => h) ed (by rw [List.length_zip]; have := sm.1; rw [List.length_cons] at this; omega) (Same.refl _) rfl rfl
      · rw [Rd.filter_all] at al2
        have ey := bl_map al2
        refine ⟨D, _, rfl, SqL.of (by rw [← ey]; exact e), ?_⟩
        rw [all_map, asc_zip _ _ nm]
        have q := q H3 ((s1.trans s2).trans s3)
        rw [nm] at q
        exact q
    | _ =>
      exact ⟨fun _ _ => False, ⟨_, rfl, _, .ty "tuple", _, _, _, rfl, .ty "tuple", ty, kt, _, rfl, iteT (q _ (Same.refl _))⟩, fun _ _ h => h.elim⟩
/-! ### is_tale -/
abbrev s_is_tale : Stmt := top 18
theorem sc_is_tale : FnScope ["value", "lot"] ["value"] (defScope s_is_tale) := ⟨rfl, rfl, rfl, by decide +kernel, rfl, by decide +kernel, by decide +kernel⟩
def Sm2 : PyData → Prop
  | .tuple ds => ds.length ≤ 1000 ∧ ∀ d ∈ ds, Sm1 d
  | _ => True
def spIsTale (K : PySem.W.Frag) : Sp := fun vs H Q _ => ∃ (v : V) (d : PyData), vs = [v] ∧ Dp K H v d ∧ Sm2 d ∧ ∀ H', Same H H' → Q (.bl (taleD d)) H'
theorem ok_is_tale {f : Addr} {fd : FuncData} (F : Fun K "is_tale" "is_tale" s_is_tale f fd) (C_is_lot : Cl P w K mg base "is_lot" ["value"] [] 2 (spIsLot K)) (n_all : mg "all" = none) (n_isinstance : mg "isinstance" = none) (n_tuple : mg "tuple" = none) : FnOk P w K mg base CX0 3 f fd ["value"] (spIsTale K) := by
  refine F.ok sc_is_tale (fun vs H Q E h => ?_) (fun cdv A outer s H vs Q E hr h => ?_)
  · obtain ⟨_, _, rfl, _⟩ := h
    rfl
  · obtain ⟨v, d, rfl, hv, sm, q⟩ := h
    refine ⟨_, (pss_one (ps_ret (pe_and (pe_callB call_isi (by rfl) n_isinstance (by decide +kernel) (pa_cons (pv 0) (pa_cons (pe_bltn (v := .ty "tuple") (by rfl) n_tuple (by decide +kernel) rfl) pa_nil))) (pe_one (pe_callB (cr_all rfl) (by rfl) n_all (by decide +kernel) (pa_cons (pe_lc (own := [("lot", 1)]) (g := gName 1) rfl sc_is_tale.nd (pi_seq (pv 0)) (blkOk_by (N := ["value", "lot"]) (sc := defScope s_is_tale) (by decide +kernel)) (fun _ _ _ _ _ => pg_name (i := 1) sc_is_tale.nd rfl (Or.inl rfl)) (fun _ _ _ _ _ => pts_nil) (fun _ _ _ _ _ => pe_use C_is_lot (hr.mono (by decide)) rfl (pa_cons (pv 1) pa_nil))) pa_nil)))))), ?_⟩
    have ty := ty_dp hv
    have kt := kit_tup hv
    cases hv with
    | @tup a xs ds ht ha =>
      have al := dpa_all ha
      have sm : ds.length ≤ 1000 ∧ ∀ d ∈ ds, Sm1 d := sm
      have hl := al.len
      have q : ∀ H', Same H H' → Q (.bl (ds.all lotD)) H' := q
      refine ⟨_, rfl, _, .ty "tuple", _, _, _, rfl, .ty "tuple", ty, kt, true, rfl, iteT ?_⟩
      refine ⟨_, rfl, a, _, rfl, .inr ht, fun J S W s0 D hD => ?_⟩
      refine lc_mf (ds := ds) W (fun _ => true) (fun _ y d => y = .bl (lotD d)) s0 hD hl (fun i x d H' ex ed s m => ?_) (fun H' ys s e al2 => ?_)
      · refine ⟨rfl, _, rfl, x, d, rfl, dp_same s (at2 al ex ed), sm.2 d (at_mem ed), fun H2 s2 => ?_⟩
        exact mf_yes m hD (fun _ _ _ _ _ h => h) ed (by omega) s2 rfl rfl
      · rw [Rd.filter_all] at al2
        have ey := bl_map al2
        refine ⟨D, _, rfl, SqL.of (by rw [← ey]; exact e), ?_⟩
        rw [all_map]
        exact q H' s
    | _ =>
      exact ⟨_, rfl, _, .ty "tuple", _, _, _, rfl, .ty "tuple", ty, kt, _, rfl, iteF (q _ (Same.refl _))⟩
end
/-! ### integers, numbers, by their data -/
def intD : PyData → Bool
  | .int _ => true
  | _ => false
def numD : PyData → Bool
  | .int i => decide (0 ≤ i)
  | _ => false
def bolD : PyData → Bool
  | .bool _ => true
  | _ => false
theorem kit_int {K : PySem.W.Frag} {H : Hp} {v : V} {d : PyData} (h : Dp K H v d) : PySem.W.kitOne K (tyD d) (.type "int") = some (intD d || bolD d) := by
  cases h with
  | non => exact kit_ty (a := "NoneType") (b := "int") (r := false) (by decide +kernel)
  | bl b => exact kit_ty (a := "bool") (b := "int") (r := true) (by decide +kernel)
  | int i => exact kit_ty (a := "int") (b := "int") (r := true) (by decide +kernel)
  | str x => exact kit_ty (a := "str") (b := "int") (r := false) (by decide +kernel)
  | lst _ _ => exact kit_ty (a := "list") (b := "int") (r := false) (by decide +kernel)
  | tup _ _ => exact kit_ty (a := "tuple") (b := "int") (r := false) (by decide +kernel)
theorem kit_bool {K : PySem.W.Frag} {H : Hp} {v : V} {d : PyData} (h : Dp K H v d) : PySem.W.kitOne K (tyD d) (.type "bool") = some (bolD d) := by
  cases h with
  | non => exact kit_ty (a := "NoneType") (b := "bool") (r := false) (by decide +kernel)
  | bl b => exact kit_ty (a := "bool") (b := "bool") (r := true) (by decide +kernel)
  | int i => exact kit_ty (a := "int") (b := "bool") (r := false) (by decide +kernel)
  | str x => exact kit_ty (a := "str") (b := "bool") (r := false) (by decide +kernel)
  | lst _ _ => exact kit_ty (a := "list") (b := "bool") (r := false) (by decide +kernel)
  | tup _ _ => exact kit_ty (a := "tuple") (b := "bool") (r := false) (by decide +kernel)
def seqD : PyData → Bool
  | .list _ => true
  | .tuple _ => true
  | _ => false
def itemsD : PyData → List PyData
  | .list ds => ds
  | .tuple ds => ds
  | _ => []
theorem kit_seq {K : PySem.W.Frag} {H : Hp} {v : V} {d : PyData} (h : Dp K H v d) : PySem.W.kitAny K (tyD d) [.type "list", .type "tuple"] = some (seqD d) := by
  have e : ∀ t : Value, ∀ b : Bool, PySem.W.kitOne K t (.type "list") = some b → ∀ c : Bool, PySem.W.kitOne K t (.type "tuple") = some c → PySem.W.kitAny K t [.type "list", .type "tuple"] = some (b || c) := fun t b e1 c e2 => by
    unfold PySem.W.kitAny
    rw [e1]
    cases b with
    | true => rfl
    | false =>
      show PySem.W.kitAny K t [.type "tuple"] = _
      unfold PySem.W.kitAny
      rw [e2]
      cases c <;> rfl
  cases h with
  | non => exact e _ false (kit_ty (a := "NoneType") (b := "list") (r := false) (by decide +kernel)) false (kit_ty (a := "NoneType") (b := "tuple") (r := false) (by decide +kernel))
  | bl b => exact e _ false (kit_ty (a := "bool") (b := "list") (r := false) (by decide +kernel)) false (kit_ty (a := "bool") (b := "tuple") (r := false) (by decide +kernel))
  | int i => exact e _ false (kit_ty (a := "int") (b := "list") (r := false) (by decide +kernel)) false (kit_ty (a := "int") (b := "tuple") (r := false) (by decide +kernel))
  | str x => exact e _ false (kit_ty (a := "str") (b := "list") (r := false) (by decide +kernel)) false (kit_ty (a := "str") (b := "tuple") (r := false) (by decide +kernel))
  | lst _ _ => exact e _ true (kit_ty (a := "list") (b := "list") (r := true) (by decide +kernel)) false (kit_ty (a := "list") (b := "tuple") (r := false) (by decide +kernel))
  | tup _ _ => exact e _ false (kit_ty (a := "tuple") (b := "list") (r := false) (by decide +kernel)) true (kit_ty (a := "tuple") (b := "tuple") (r := true) (by decide +kernel))
section
variable {P : Program} {w : World} {K : PySem.W.Frag} {mg : Str → Option Value} {base : Heap}
abbrev s_is_integer : Stmt := top 8
theorem sc_is_integer : FnScope ["value"] ["value"] (defScope s_is_integer) := ⟨rfl, rfl, rfl, by decide +kernel, rfl, by decide +kernel, by decide +kernel⟩
def spIsInt (K : PySem.W.Frag) : Sp := fun vs H Q _ => ∃ (v : V) (d : PyData), vs = [v] ∧ Dp K H v d ∧ Q (.bl (intD d)) H
theorem ok_isint {f : Addr} {fd : FuncData} (F : Fun K "is_integer" "is_integer" s_is_integer f fd) (n_bool : mg "bool" = none) (n_int : mg "int" = none) (n_isinstance : mg "isinstance" = none) : FnOk P w K mg base CX0 1 f fd ["value"] (spIsInt K) := by
  refine F.ok sc_is_integer (fun vs H Q E h => ?_) (fun cdv A outer s H vs Q E hr h => ?_)
  · obtain ⟨_, _, rfl, _⟩ := h
    rfl
  · obtain ⟨v, d, rfl, hv, q⟩ := h
    refine ⟨_, (pss_one (ps_ret (pe_and (pe_callB call_isi (by rfl) n_isinstance (by decide +kernel) (pa_cons (pv 0) (pa_cons (pe_bltn (v := .ty "int") (by rfl) n_int (by decide +kernel) rfl) pa_nil))) (pe_one (pe_not (pe_callB call_isi (by rfl) n_isinstance (by decide +kernel) (pa_cons (pv 0) (pa_cons (pe_bltn (v := .ty "bool") (by rfl) n_bool (by decide +kernel) rfl) pa_nil)))))))), ?_⟩
    have ty := ty_dp hv
    have ki := kit_int hv
    have kb := kit_bool hv
    have e : intD d = ((intD d || bolD d) && !bolD d) := by cases d <;> rfl
    rw [e] at q
    refine ⟨_, rfl, _, .ty "int", _, _, _, rfl, .ty "int", ty, ki, _, rfl, ?_⟩
    cases c : (intD d || bolD d) with
    | false => rw [c] at q; exact iteF q
    | true =>
      rw [c] at q
      exact iteT ⟨_, rfl, _, .ty "bool", _, _, _, rfl, .ty "bool", ty, kb, _, rfl, q⟩
abbrev s_is_number : Stmt := top 9
theorem sc_is_number : FnScope ["value"] ["value"] (defScope s_is_number) := ⟨rfl, rfl, rfl, by decide +kernel, rfl, by decide +kernel, by decide +kernel⟩
def spIsNum (K : PySem.W.Frag) : Sp := fun vs H Q _ => ∃ (v : V) (d : PyData), vs = [v] ∧ Dp K H v d ∧ Q (.bl (numD d)) H
theorem ok_isnum {f : Addr} {fd : FuncData} (F : Fun K "is_number" "is_number" s_is_number f fd) (C_is_integer : Cl P w K mg base "is_integer" ["value"] [] 1 (spIsInt K)) : FnOk P w K mg base CX0 2 f fd ["value"] (spIsNum K) := by
  refine F.ok sc_is_number (fun vs H Q E h => ?_) (fun cdv A outer s H vs Q E hr h => ?_)
  · obtain ⟨_, _, rfl, _⟩ := h
    rfl
  · obtain ⟨v, d, rfl, hv, q⟩ := h
    refine ⟨_, (pss_one (ps_ret (pe_and (pe_use C_is_integer (hr.mono (by decide)) rfl (pa_cons (pv 0) pa_nil)) (pe_one (pe_cmpR op_ge (pv 0) pe_int (nomark _)))))), ?_⟩
    refine ⟨_, rfl, v, d, rfl, hv, _, rfl, ?_⟩
    cases hv with
    | int i => exact iteT ⟨_, rfl, _, _, rfl, rfl, q⟩
    | _ => exact iteF q
/-! ### is_count -/
def cntD : PyData → Bool
  | .int i => decide (1 ≤ i)
  | _ => false
abbrev s_is_count : Stmt := top 10
theorem sc_is_count : FnScope ["value"] ["value"] (defScope s_is_count) := ⟨rfl, rfl, rfl, by decide +kernel, rfl, by decide +kernel, by decide +kernel⟩
def spCntD (K : PySem.W.Frag) : Sp := fun vs H Q _ => ∃ (v : V) (d : PyData), vs = [v] ∧ Dp K H v d ∧ Q (.bl (cntD d)) H
theorem ok_cnt {f : Addr} {fd : FuncData} (F : Fun K "is_count" "is_count" s_is_count f fd) (C_is_integer : Cl P w K mg base "is_integer" ["value"] [] 1 (spIsInt K)) : FnOk P w K mg base CX0 2 f fd ["value"] (spCntD K) := by
  refine F.ok sc_is_count (fun vs H Q E h => ?_) (fun cdv A outer s H vs Q E hr h => ?_)
  · obtain ⟨_, _, rfl, _⟩ := h
    rfl
  · obtain ⟨v, d, rfl, hv, q⟩ := h
    refine ⟨_, (pss_one (ps_ret (pe_and (pe_use C_is_integer (hr.mono (by decide)) rfl (pa_cons (pv 0) pa_nil)) (pe_one (pe_cmpR op_ge (pv 0) pe_int (nomark _)))))), ?_⟩
    refine ⟨_, rfl, v, d, rfl, hv, _, rfl, ?_⟩
    cases hv with
    | int i => exact iteT ⟨_, rfl, _, _, rfl, rfl, q⟩
    | _ => exact iteF q
/-! ### is_sequence -/
abbrev s_is_sequence : Stmt := top 11
theorem sc_is_sequence : FnScope ["value"] ["value"] (defScope s_is_sequence) := ⟨rfl, rfl, rfl, by decide +kernel, rfl, by decide +kernel, by decide +kernel⟩
def spSeq (K : PySem.W.Frag) : Sp := fun vs H Q _ => ∃ (v : V) (d : PyData), vs = [v] ∧ Dp K H v d ∧ ∀ H', Same H H' → Q (.bl (seqD d)) H'
theorem ok_isseq {f : Addr} {fd : FuncData} (F : Fun K "is_sequence" "is_sequence" s_is_sequence f fd) (n_isinstance : mg "isinstance" = none) (n_list : mg "list" = none) (n_tuple : mg "tuple" = none) : FnOk P w K mg base CX0 1 f fd ["value"] (spSeq K) := by
  refine F.ok sc_is_sequence (fun vs H Q E h => ?_) (fun cdv A outer s H vs Q E hr h => ?_)
  · obtain ⟨_, _, rfl, _⟩ := h
    rfl
  · obtain ⟨v, d, rfl, dv, q⟩ := h
    refine ⟨_, (pss_one (ps_ret (pe_callB call_isiT (by rfl) n_isinstance (by decide +kernel) (pa_cons (pv 0) (pa_cons (pe_tup (pa_cons (pe_bltn (v := .ty "list") (by rfl) n_list (by decide +kernel) rfl) (pa_cons (pe_bltn (v := .ty "tuple") (by rfl) n_tuple (by decide +kernel) rfl) pa_nil))) pa_nil))))), ?_⟩
    refine ⟨_, rfl, by show 2 ≤ sizeLine; decide, fun t ht => ?_⟩
    have s1 := same_new ht (.tup [V.ty "list", V.ty "tuple"])
    exact ⟨v, t, _, tyD d, _, seqD d, rfl, upd_same, .cons (.ty "list") (.cons (.ty "tuple") .nil), ty_dp (dp_same s1 dv), kit_seq dv, q _ s1⟩
end
end R0

namespace R0
open PySem PySem.Spec PyProof.Rows L2 Hb St Sq Ow En Zp RZ Rd Xb Da
/-! ### sets of texts have a length -/
theorem cr_lenT {X : Cx} : CallR X (.builtin "len") (fun xs H Q => ∃ (a : Addr) (m : List Str), xs = [.ref a] ∧ H a = some (SetT X.prog X.w a m) ∧ m.length ≤ 1000 ∧ Q (.int (m.length : Nat)) H) := by
  intro pins s σ H xs us Q I r h
  obtain ⟨a, m, rfl, ha, hb, q⟩ := h
  rw [Vals.ref1 r]
  obtain ⟨⟨es, ep, t⟩, e, F, ris, led, nd⟩ := id (show TS X.prog X.w s.heap a m from (I.hok a _ ha).1)
  have sz : es.size = m.length := F.sz
  exact call_len_set e ⟨rfl, rfl, rfl⟩ rfl F.fit (by rw [sz]; omega) ⟨.int (m.length : Nat), H, I.tok _, ⟨_, by rw [sz]⟩, q⟩
def rLenK (K : PySem.W.Frag) : List V → Hp → VK → Prop := fun xs H Q => ∃ p ys, xs = [V.ref p] ∧ (SqL K H p ys ∨ SqT K H p ys) ∧ Q (V.int (ys.length : Nat)) H
theorem nd_le : ∀ (m l : List Str), m.Nodup → (∀ x ∈ m, x ∈ l) → m.length ≤ l.length
  | [], _, _, _ => Nat.zero_le _
  | x :: m, l, nd, h => by
    have hx := h x List.mem_cons_self
    obtain ⟨h1, h2⟩ := List.nodup_cons.mp nd
    have := nd_le m (l.erase x) h2 fun y hy => (List.mem_erase_of_ne (fun e => h1 (by rw [← e]; exact hy))).mpr (h y (List.mem_cons_of_mem _ hy))
    rw [List.length_erase_of_mem hx] at this
    have := List.length_pos_of_mem hx
    rw [List.length_cons]; omega
theorem nd_short : ∀ l : List Str, ¬ l.Nodup → ∃ l' : List Str, l'.length < l.length ∧ ∀ x ∈ l, x ∈ l'
  | [], h => (h List.nodup_nil).elim
  | x :: l, h => by
    by_cases c : x ∈ l
    · exact ⟨l, by simp, fun y hy => (List.mem_cons.mp hy).elim (fun e => e ▸ c) id⟩
    · obtain ⟨l', h1, h2⟩ := nd_short l fun nd => h (List.nodup_cons.mpr ⟨c, nd⟩)
      exact ⟨x :: l', by simpa using h1, fun y hy => (List.mem_cons.mp hy).elim (fun e => e ▸ List.mem_cons_self) fun m => List.mem_cons_of_mem _ (h2 y m)⟩
/-! ### rooms, as data -/
def rmlD : PyData → Bool
  | .tuple [a, _] => nmD a
  | _ => false
def nmOf : PyData → Str
  | .tuple (.str x :: _) => x
  | _ => Str.ofString ""
def tlOf : PyData → PyData
  | .tuple [_, t] => t
  | _ => .none
def arD (d : PyData) : Bool := seqD d && (decide (1 ≤ (itemsD d).length ∧ (itemsD d).length ≤ 3) && ((itemsD d).all rmlD && (decide ((itemsD d).map nmOf).Nodup && (itemsD d).all fun e => taleD (tlOf e))))
def SmE : PyData → Prop
  | .tuple ds => ∀ x ∈ ds, ShortD x ∧ Sm2 x
  | _ => True
def SmR (d : PyData) : Prop := ∀ e ∈ itemsD d, SmE e
theorem rml_of {K : PySem.W.Frag} {H : Hp} {v : V} {d : PyData} (h : Dp K H v d) (r : rmlD d = true) : ∃ a x t vt, v = .ref a ∧ d = .tuple [.str x, t] ∧ SqT K H a [.str x, vt] ∧ Dp K H vt t ∧ nmB x = true := by
  cases h with
  | tup ht ha =>
    cases dpa_all ha with
    | nil => cases r
    | cons h1 r1 =>
      cases r1 with
      | nil => cases r
      | cons h2 r2 =>
        cases r2 with
        | cons _ _ => cases r
        | nil =>
          obtain ⟨x, rfl, nx⟩ := nm_str (show nmD _ = true from r)
          cases h1
          exact ⟨_, _, _, _, rfl, rfl, ht, h2, nx⟩
  | _ => cases r
theorem seq_of {K : PySem.W.Frag} {H : Hp} {v : V} {d : PyData} (h : Dp K H v d) (c : seqD d = true) : ∃ a xs, v = .ref a ∧ SqX K H a xs ∧ All2 (Dp K H) xs (itemsD d) := by
  cases h with
  | lst h a => exact ⟨_, _, rfl, .inl h, dpa_all a⟩
  | tup h a => exact ⟨_, _, rfl, .inr h, dpa_all a⟩
  | _ => cases c
section
variable {P : Program} {w : World} {K : PySem.W.Frag} {mg : Str → Option Value} {base : Heap}
/-! ### are_rooms -/
abbrev s_are_rooms : Stmt := top 26
theorem sc_are_rooms : FnScope ["value", "room"] ["value"] (defScope s_are_rooms) := ⟨rfl, rfl, rfl, by decide +kernel, rfl, by decide +kernel, by decide +kernel⟩
def spAreR (K : PySem.W.Frag) (w : World) : Sp := fun vs H Q _ => ∃ (v : V) (d : PyData), vs = [v] ∧ Dp K H v d ∧ SmR d ∧ ∀ H', Same H H' → Q (.bl (arD d)) H'
theorem ok_arer {f : Addr} {fd : FuncData} (F : Fun K "are_rooms" "are_rooms" s_are_rooms f fd) (C_is_name : Cl P w K mg base "is_name" ["value"] [] 1 (spIsName K)) (C_is_sequence : Cl P w K mg base "is_sequence" ["value"] [] 1 (spSeq K)) (C_is_tale : Cl P w K mg base "is_tale" ["value"] [] 3 (spIsTale K)) {tk : Tok} (g_MOST_ROOMS : mg "MOST_ROOMS" = some (.int 3 tk)) (n_all : mg "all" = none) (n_isinstance : mg "isinstance" = none) (n_len : mg "len" = none) (n_set : mg "set" = none) (n_tuple : mg "tuple" = none) : FnOk P w K mg base CX0 4 f fd ["value"] (spAreR K w) := by
  refine F.ok sc_are_rooms (fun vs H Q E h => ?_) (fun cdv A outer s H vs Q E hr h => ?_)
  · obtain ⟨_, _, rfl, _⟩ := h
    rfl
  · obtain ⟨v, d, rfl, dv, sm, q⟩ := h
    refine ⟨_, (Evl.pss_cut (ps_if (PW.pt (pw_or (pt_not (pt_val (pe_use C_is_sequence (hr.mono (by decide)) rfl (pa_cons (pv 0) pa_nil)))) (pw_or1 (pt_not (pt_chain op_le op_le pe_int (pe_callB call_len_seq (by rfl) n_len PySem.boot_len (pa_cons (pv 0) pa_nil)) (pe_glob (v := .int 3) rfl g_MOST_ROOMS ⟨_, rfl⟩)))))) (pss_one (ps_ret pe_bl)) pss_nil)
    (Evl.pss_cut (ps_if (pt_not (pt_val (pe_callB (cr_all rfl) (by rfl) n_all (by decide +kernel) (pa_cons (pe_lc (own := [("room", 1)]) (g := gName 1) rfl sc_are_rooms.nd (pi_seq (pv 0)) (blkOk_by (N := ["value", "room"]) (sc := defScope s_are_rooms) (by decide +kernel)) (fun _ _ _ _ _ => pg_name (i := 1) sc_are_rooms.nd rfl (Or.inl rfl)) (fun _ _ _ _ _ => pts_nil) (fun _ _ _ _ _ => pe_and (pe_callB (id := "isinstance") (r := rIsi K) call_isi (by rfl) n_isinstance (by decide +kernel) (pa_cons (pv 1) (pa_cons (pe_bltn (v := .ty "tuple") (by rfl) n_tuple (by decide +kernel) rfl) pa_nil))) (pe_and (pe_cmpR op_eq (pe_callB (id := "len") (r := rLenK K) call_len_seq (by rfl) n_len PySem.boot_len (pa_cons (pv 1) pa_nil)) pe_int (nomark _)) (pe_one (pe_use C_is_name (hr.mono (by decide)) rfl (pa_cons (pe_ix (r := rIxT K) ix_tup (pv 1) pe_int (fun _ _ => rfl)) pa_nil)))))) pa_nil)))) (pss_one (ps_ret pe_bl)) pss_nil)
    (Evl.pss_cut (ps_if (pt_cmpR op_lt (pe_callB cr_lenT (by rfl) n_len PySem.boot_len (pa_cons (pe_callTy (cr_setT rfl) (by rfl) n_set (by decide +kernel) (pa_cons (pe_lc (own := [("room", 1)]) (g := gName 1) rfl sc_are_rooms.nd (pi_seq (pv 0)) (blkOk_by (N := ["value", "room"]) (sc := defScope s_are_rooms) (by decide +kernel)) (fun _ _ _ _ _ => pg_name (i := 1) sc_are_rooms.nd rfl (Or.inl rfl)) (fun _ _ _ _ _ => pts_nil) (fun _ _ _ _ _ => pe_ix (r := rIxT K) ix_tup (pv 1) pe_int (fun _ _ => rfl))) pa_nil)) pa_nil)) (pe_callB call_len_seq (by rfl) n_len PySem.boot_len (pa_cons (pv 0) pa_nil)) (nomark _)) (pss_one (ps_ret pe_bl)) pss_nil)
    (pss_one (ps_ret (pe_callB (cr_all rfl) (by rfl) n_all (by decide +kernel) (pa_cons (pe_lc (own := [("room", 1)]) (g := gName 1) rfl sc_are_rooms.nd (pi_seq (pv 0)) (blkOk_by (N := ["value", "room"]) (sc := defScope s_are_rooms) (by decide +kernel)) (fun _ _ _ _ _ => pg_name (i := 1) sc_are_rooms.nd rfl (Or.inl rfl)) (fun _ _ _ _ _ => pts_nil) (fun _ _ _ _ _ => pe_use C_is_tale (hr.mono (by decide)) rfl (pa_cons (pe_ix (r := rIxT K) ix_tup (pv 1) pe_int (fun _ _ => rfl)) pa_nil))) pa_nil))))))), ?_⟩
    refine ⟨fun σ H' => σ = [some v, none] ∧ Same H H' ∧ seqD d = true ∧ 1 ≤ (itemsD d).length ∧ (itemsD d).length ≤ 3, ?_, ?_⟩
    · refine ⟨_, rfl, v, d, rfl, dv, fun H1 s1 => ⟨_, rfl, ?_⟩⟩
      have q1 := q _ s1
      unfold arD at q1
      cases c : seqD d with
      | false => rw [c] at q1; exact iteT q1
      | true =>
        rw [c, Bool.true_and] at q1
        obtain ⟨a, xs, rfl, hx, al⟩ := seq_of (dp_same s1 dv) c
        have ln := al.len
        refine iteF ⟨_, rfl, a, xs, rfl, hx, 1, _, rfl, rfl, _, rfl, ?_⟩
        rw [ln]
        by_cases c1 : 1 ≤ (itemsD d).length
        · refine iteD (fun _ => ⟨_, _, rfl, rfl, _, rfl, ?_⟩) fun z => (z (by omega)).elim
          by_cases c2 : (itemsD d).length ≤ 3
          · rw [decide_eq_true (show ((itemsD d).length : Int) ≤ 3 by omega)]
            exact iteF ⟨rfl, s1, rfl, c1, c2⟩
          · rw [decide_eq_false (show ¬ ((itemsD d).length : Int) ≤ 3 by omega)]
            rw [decide_eq_false (fun z => c2 z.2)] at q1
            exact iteT q1
        · rw [decide_eq_false (show ¬ (1 : Int) ≤ ((itemsD d).length : Nat) by omega)]
          rw [decide_eq_false (fun z => c1 z.1)] at q1
          exact iteF ⟨_, rfl, iteT q1⟩
    rintro σ H1 ⟨rfl, s1, c, c1, c2⟩
    have q : ∀ H', Same H1 H' → Q (.bl ((itemsD d).all rmlD && (decide ((itemsD d).map nmOf).Nodup && (itemsD d).all fun e => taleD (tlOf e)))) H' := fun H' s => by
      have := q H' (s1.trans s)
      unfold arD at this
      rw [c, decide_eq_true ⟨c1, c2⟩, Bool.true_and, Bool.true_and] at this
      exact this
    obtain ⟨a, xs, rfl, hx, al⟩ := seq_of (dp_same s1 dv) c
    have ln := al.len
    refine ⟨fun σ H' => σ = [some (.ref a), none] ∧ Same H1 H' ∧ (itemsD d).all rmlD = true, ?_, ?_⟩
    · refine ⟨_, rfl, a, xs, rfl, hx, fun J S W s0 D hD => ?_⟩
      refine lc_mf (ds := itemsD d) W (fun _ => true) (fun _ y e => y = .bl (rmlD e)) s0 hD ln (fun i x e H' ex ee s m => ?_) (fun H' ys s e al2 => ?_)
      · have dx := dp_same s (at2 al ex ee)
        have se := sm e (at_mem ee)
        refine ⟨rfl, _, rfl, x, .ty "tuple", _, _, _, rfl, .ty "tuple", ty_dp dx, kit_tup dx, _, rfl, ?_⟩
        have fin : ∀ (b : Bool), rmlD e = b → ∃ acc, H' D = some (.lst acc) ∧ acc.length < sizeLine ∧ MF H1 D (itemsD d) (fun _ => true) (fun _ y e => y = .bl (rmlD e)) (i + 1) (upd H' D (.lst (acc ++ [.bl b]))) := fun b eb =>
          mf_yes m hD (fun _ _ _ _ _ h => h) ee (by omega) (Same.refl _) rfl (by rw [eb])
        cases dx with
        | @tup b ys es ht ha =>
          have al3 := dpa_all ha
          refine iteT ⟨_, rfl, b, _, rfl, .inr ht, rfl, _, rfl, ?_⟩
          rw [al3.len]
          have neq : ∀ n : Nat, n ≠ 2 → decide (V.int (n : Nat) = V.int 2) = false := fun n h => decide_eq_false fun z => by injection z with z; omega
          cases al3 with
          | nil => rw [neq _ (by decide)]; exact iteF (fin _ rfl)
          | cons h1 r1 =>
            cases r1 with
            | nil => rw [neq _ (by simp)]; exact iteF (fin _ rfl)
            | cons h2 r2 =>
              cases r2 with
              | cons h3 r3 => rw [neq _ (by simp)]; exact iteF (fin _ rfl)
              | nil => exact iteT ⟨_, rfl, b, _, _, _, rfl, rfl, ht, at0, _, _, rfl, h1, (se _ (by simp)).1, fin _ rfl⟩
        | _ => exact iteF (fin _ rfl)
      · rw [Rd.filter_all] at al2
        have ey := bl_map al2
        refine ⟨D, _, rfl, SqL.of (by rw [← ey]; exact e), _, rfl, ?_⟩
        rw [all_map]
        cases c2 : (itemsD d).all rmlD with
        | true => exact iteF ⟨rfl, s, rfl⟩
        | false =>
          have q := q H' s
          rw [c2, Bool.false_and] at q
          exact iteT q
    rintro σ H2 ⟨rfl, s2, c3⟩
    have q : ∀ H', Same H2 H' → Q (.bl (decide ((itemsD d).map nmOf).Nodup && (itemsD d).all fun e => taleD (tlOf e))) H' := fun H' s => by
      have := q H' (s2.trans s)
      rw [c3, Bool.true_and] at this
      exact this
    have hx := sqxSame s2 hx
    have al := al.imp fun _ _ r => dp_same s2 r
    have rml : ∀ {i : Nat} {x : V} {e : PyData}, xs[i]? = some x → (itemsD d)[i]? = some e → ∃ a x' t vt, x = .ref a ∧ e = .tuple [.str x', t] ∧ SqT K H2 a [.str x', vt] ∧ Dp K H2 vt t ∧ nmB x' = true := fun ex ee => rml_of (at2 al ex ee) (List.all_eq_true.mp c3 _ (at_mem ee))
    refine ⟨fun σ H' => σ = [some (.ref a), none] ∧ Same H2 H' ∧ ((itemsD d).map nmOf).Nodup, ?_, ?_⟩
    · refine ⟨_, rfl, a, xs, rfl, hx, fun J S W s0 D hD => ?_⟩
      refine lc_mf (ds := itemsD d) W (fun _ => true) (fun _ y e => y = .str (nmOf e)) s0 hD ln (fun i x e H' ex ee s m => ?_) (fun H' ys s e al2 => ?_)
      · obtain ⟨b, x', t, vt, rfl, rfl, ht, h2, nx⟩ := rml ex ee
        refine ⟨rfl, _, rfl, b, _, _, _, rfl, rfl, tupFix (Fix.of s) ht, at0, ?_⟩
        exact mf_yes m hD (fun _ _ _ _ _ h => h) ee (by omega) (Same.refl _) rfl rfl
      · rw [Rd.filter_all] at al2
        have ey : ys = ((itemsD d).map nmOf).map V.str := by rw [List.map_map]; exact al2.map_eq fun _ _ h => h
        rw [ey] at e
        refine ⟨D, _, rfl, SqX.lst e, by rw [List.length_map]; omega, fun b mm hb nd ml mem => ?_⟩
        have s5 := same_new hb (SetT P w b mm)
        refine ⟨b, mm, rfl, upd_same, by rw [List.length_map] at ml; omega, _, rfl, a, xs, rfl, sqxSame (s.trans s5) hx, _, _, rfl, rfl, _, rfl, ?_⟩
        by_cases c4 : ((itemsD d).map nmOf).Nodup
        · have le := nd_le _ mm c4 fun x hx => (mem x).mpr hx
          rw [List.length_map] at le
          rw [decide_eq_false (show ¬ ((mm.length : Nat) : Int) < ((xs.length : Nat) : Int) by omega)]
          exact iteF ⟨rfl, s.trans s5, c4⟩
        · obtain ⟨l', h1, h2⟩ := nd_short _ c4
          have le := nd_le mm l' nd fun x hx => h2 x ((mem x).mp hx)
          rw [List.length_map] at h1
          rw [decide_eq_true (show ((mm.length : Nat) : Int) < ((xs.length : Nat) : Int) by omega)]
          have q := q _ (s.trans s5)
          rw [decide_eq_false c4, Bool.false_and] at q
          exact iteT q
    rintro σ H3 ⟨rfl, s3, c4⟩
    rw [decide_eq_true c4, Bool.true_and] at q
    refine ⟨_, rfl, a, xs, rfl, sqxSame s3 hx, fun J S W s0 D hD => ?_⟩
    refine lc_mf (ds := itemsD d) W (fun _ => true) (fun _ y e => y = .bl (taleD (tlOf e))) s0 hD ln (fun i x e H' ex ee s m => ?_) (fun H' ys s e al2 => ?_)
    · obtain ⟨b, x', t, vt, rfl, rfl, ht, h2, nx⟩ := rml ex ee
      have s4 := s3.trans s
      refine ⟨rfl, _, rfl, b, _, _, _, rfl, rfl, tupFix (Fix.of s4) ht, at1, vt, t, rfl, dp_same s4 h2, (sm _ (at_mem ee) t (by simp)).2, fun H5 s5 => ?_⟩
      exact mf_yes m hD (fun _ _ _ _ _ h => h) ee (by omega) s5 rfl rfl
    · rw [Rd.filter_all] at al2
      have ey := bl_map al2
      refine ⟨D, _, rfl, SqL.of (by rw [← ey]; exact e), ?_⟩
      rw [all_map]
      exact q H' (s3.trans s)
end
end R0

namespace R0
open PySem PySem.Spec PyProof.Rows L2 Hb St Sq Ow En Zp RZ Rd Xb Da
/-! ### steps and joins, as data -/
def mnK (ms : List (Str × Int)) : List (Key × V) := ms.map fun p => (Sum.inr p.1, .int p.2)
theorem mn_get : ∀ (ms : List (Str × Int)) (x : Str), valV (mnK ms) (Sum.inr x : Key) = (ms.lookup x).map V.int
  | [], _ => rfl
  | (y, n) :: r, x => by
    show valV ((Sum.inr y, V.int n) :: mnK r) _ = _
    rw [List.lookup_cons]
    by_cases c : y = x
    · subst c
      rw [valV_pos rfl, beq_self_eq_true]; rfl
    · rw [valV_neg fun z => c (Sum.inr.inj z), mn_get r x, show (x == y) = false from by simpa using fun z => c z.symm]
def stB (ms : List (Str × Int)) : PyData → Bool
  | .tuple [.str x, b] => nmB x && (match ms.lookup x with
    | some n => cntD b && (match b with
      | .int i => decide (i ≤ n)
      | _ => false)
    | none => false)
  | _ => false
def SmS : PyData → Prop
  | .tuple ds => ∀ x ∈ ds, ShortD x
  | _ => True
def SmJ : PyData → Prop
  | .tuple ds => ∀ x ∈ ds, SmS x
  | _ => True
def SmJs (d : PyData) : Prop := (itemsD d).length ≤ 1000 ∧ ∀ x ∈ itemsD d, SmJ x
def jnB (ms : List (Str × Int)) : PyData → Bool
  | .tuple [a, b] => stB ms a && (stB ms b && decide (nmOf a ≠ nmOf b))
  | _ => false
theorem neStr (x y : Str) : (!decide (V.str x = V.str y)) = decide (x ≠ y) := by
  by_cases z : x = y
  · subst z; simp
  · rw [decide_eq_false (fun e => z (by injection e)), decide_eq_true z]; rfl
theorem eqStr (x y : Str) : decide (V.str x = V.str y) = decide (x = y) := by
  by_cases z : x = y
  · subst z; simp
  · rw [decide_eq_false (fun e => z (by injection e)), decide_eq_false z]
theorem st_len {ms : List (Str × Int)} {ds : List PyData} (h : ds.length ≠ 2) : stB ms (.tuple ds) = false := by
  match ds, h with
  | [], _ => rfl
  | [a], _ => cases a <;> rfl
  | a :: b :: c :: r, _ => cases a <;> rfl
  | [a, b], h => exact absurd rfl h
theorem st_nm {ms : List (Str × Int)} {a b : PyData} (h : nmD a = false) : stB ms (.tuple [a, b]) = false := by
  cases a with
  | str x =>
    show (nmB x && _) = false
    rw [show nmB x = false from h]; rfl
  | _ => rfl
theorem st_no {ms : List (Str × Int)} {x : Str} {b : PyData} (h : ms.lookup x = none) : stB ms (.tuple [.str x, b]) = false := by
  show (nmB x && (match ms.lookup x with | some n => _ | none => false)) = false
  rw [h, Bool.and_false]
def leB (n : Int) : PyData → Bool
  | .int i => decide (i ≤ n)
  | _ => false
theorem st_yes {ms : List (Str × Int)} {x : Str} {b : PyData} {n : Int} (nx : nmB x = true) (h : ms.lookup x = some n) : stB ms (.tuple [.str x, b]) = (cntD b && leB n b) := by
  show (nmB x && (match ms.lookup x with | some n => _ | none => false)) = _
  rw [h, nx, Bool.true_and]
  cases b <;> rfl
section
variable {P : Program} {w : World} {K : PySem.W.Frag} {mg : Str → Option Value} {base : Heap}
/-! ### is_step -/
abbrev s_is_step : Stmt := top 27
theorem sc_is_step : FnScope ["many", "value"] ["many", "value"] (defScope s_is_step) := ⟨rfl, rfl, rfl, by decide +kernel, rfl, by decide +kernel, by decide +kernel⟩
def spStep (K : PySem.W.Frag) : Sp := fun vs H Q _ => ∃ (m : Addr) (ms : List (Str × Int)) (v : V) (d : PyData), vs = [.ref m, v] ∧ H m = some (.dK (mnK ms)) ∧ Dp K H v d ∧ SmS d ∧ Q (.bl (stB ms d)) H
theorem ok_step {f : Addr} {fd : FuncData} (F : Fun K "is_step" "is_step" s_is_step f fd) (C_is_count : Cl P w K mg base "is_count" ["value"] [] 2 (spCntD K)) (C_is_name : Cl P w K mg base "is_name" ["value"] [] 1 (spIsName K)) (n_isinstance : mg "isinstance" = none) (n_len : mg "len" = none) (n_tuple : mg "tuple" = none) : FnOk P w K mg base CX0 3 f fd ["many", "value"] (spStep K) := by
  refine F.ok sc_is_step (fun vs H Q E h => ?_) (fun cdv A outer s H vs Q E hr h => ?_)
  · obtain ⟨_, _, _, _, rfl, _⟩ := h
    rfl
  · obtain ⟨m, ms, v, d, rfl, em, dv, sm, q⟩ := h
    refine ⟨_, (Evl.pss_cut (ps_if (PW.pt (pw_or (pt_not (pt_val (pe_callB call_isi (by rfl) n_isinstance (by decide +kernel) (pa_cons (pv 1) (pa_cons (pe_bltn (v := .ty "tuple") (by rfl) n_tuple (by decide +kernel) rfl) pa_nil))))) (pw_or (pt_cmpR op_ne (pe_callB call_len_seq (by rfl) n_len PySem.boot_len (pa_cons (pv 1) pa_nil)) pe_int (nomark _)) (pw_or (pt_not (pt_val (pe_use C_is_name (hr.mono (by decide)) rfl (pa_cons (pe_ix ix_tup (pv 1) pe_int (fun _ _ => rfl)) pa_nil)))) (pw_or1 (pt_cmp (pc_dnotin (hu_of hr) (pe_ix ix_tup (pv 1) pe_int (fun _ _ => rfl)) (pv 0)))))))) (pss_one (ps_ret pe_bl)) pss_nil)
    (pss_one (ps_ret (pe_and (pe_use C_is_count (hr.mono (by decide)) rfl (pa_cons (pe_ix ix_tup (pv 1) pe_int (fun _ _ => rfl)) pa_nil)) (pe_one (pe_cmpR op_le (pe_ix ix_tup (pv 1) pe_int (fun _ _ => rfl)) (pe_dget (hu_of hr) (pv 0) (pe_ix ix_tup (pv 1) pe_int (fun _ _ => rfl)) (fun _ _ => rfl)) (nomark _))))))), ?_⟩
    have ty := ty_dp dv
    have kt := kit_tup dv
    cases dv with
    | @tup a xs ds ht ha =>
      have al := dpa_all ha
      have neq : ∀ n : Nat, n ≠ 2 → (!decide (V.int (n : Nat) = V.int 2)) = true := fun n h => by rw [decide_eq_false fun z => by injection z with z; omega]; rfl
      refine ⟨fun σ H' => σ = [some (.ref m), some (.ref a)] ∧ H' = H ∧ ∃ x n v2 d2, ds = [.str x, d2] ∧ xs = [.str x, v2] ∧ Dp K H v2 d2 ∧ nmB x = true ∧ ms.lookup x = some n, ?_, ?_⟩
      · refine ⟨_, rfl, _, .ty "tuple", _, _, _, rfl, .ty "tuple", ty, kt, true, rfl, iteF ⟨_, rfl, a, _, rfl, .inr ht, rfl, _, rfl, ?_⟩⟩
        have ll := al.len
        by_cases c2 : ds.length = 2
        · cases al with
          | nil => cases c2
          | cons h1 r1 =>
            cases r1 with
            | nil => cases c2
            | cons h2 r2 =>
              cases r2 with
              | cons h3 r3 => simp at c2
              | @nil =>
              refine iteF ⟨_, rfl, a, _, _, _, rfl, rfl, ht, at0, _, _, rfl, h1, sm _ (by simp), _, rfl, ?_⟩
              cases c3 : nmD _ with
              | false =>
                rw [st_nm c3] at q
                exact iteT q
              | true =>
                obtain ⟨x, rfl, nx⟩ := nm_str c3
                cases h1
                refine iteF ⟨_, rfl, a, _, _, _, rfl, rfl, ht, at0, _, rfl, m, _, rfl, DGet.k (k := Sum.inr x) em, _, rfl, ?_⟩
                rw [mn_get]
                cases c4 : ms.lookup x with
                | none =>
                  rw [st_no c4] at q
                  exact iteT q
                | some n => exact iteF ⟨rfl, rfl, x, n, _, _, rfl, rfl, h2, nx, c4⟩
        · rw [st_len c2] at q
          rw [neq _ (by rw [ll]; exact c2)]
          exact iteT q
      rintro σ H' ⟨rfl, rfl, x, n, v2, d2, rfl, rfl, h2, nx, c4⟩
      rw [st_yes nx c4] at q
      refine ⟨_, rfl, a, _, _, _, rfl, rfl, ht, at1, _, _, rfl, h2, _, rfl, ?_⟩
      cases h2 with
      | int i =>
        cases c5 : cntD (.int i) with
        | false => rw [c5] at q; exact iteF q
        | true =>
          rw [c5, Bool.true_and] at q
          refine iteT ⟨_, rfl, a, _, _, _, rfl, rfl, ht, at1, _, rfl, _, rfl, a, _, _, _, rfl, rfl, ht, at0, m, .int n, rfl, ?_, _, _, rfl, rfl, q⟩
          have := DGet.k (k := Sum.inr x) em
          rw [mn_get, c4] at this
          exact this
      | _ => exact iteF q
    | _ => exact ⟨fun _ _ => False, ⟨_, rfl, _, .ty "tuple", _, _, _, rfl, .ty "tuple", ty, kt, _, rfl, iteT q⟩, fun _ _ h => h.elim⟩
theorem st_shape {ms : List (Str × Int)} {d : PyData} (h : stB ms d = true) : ∃ x i n, d = .tuple [.str x, .int i] ∧ ms.lookup x = some n ∧ 1 ≤ i ∧ i ≤ n ∧ nmB x = true := by
  cases d with
  | tuple ds =>
    by_cases c2 : ds.length = 2
    · match ds, c2 with
      | [a, b], _ =>
        cases c3 : nmD a with
        | false => rw [st_nm c3] at h; cases h
        | true =>
          obtain ⟨x, rfl, nx⟩ := nm_str c3
          cases c4 : ms.lookup x with
          | none => rw [st_no c4] at h; cases h
          | some n =>
            rw [st_yes nx c4, Bool.and_eq_true] at h
            cases b with
            | int i => exact ⟨x, i, n, rfl, c4, of_decide_eq_true h.1, of_decide_eq_true h.2, nx⟩
            | _ => cases h.1
    · rw [st_len c2] at h; cases h
  | _ => cases h
theorem jn_len {ms : List (Str × Int)} {ds : List PyData} (h : ds.length ≠ 2) : jnB ms (.tuple ds) = false := by
  match ds, h with
  | [], _ => rfl
  | [a], _ => rfl
  | a :: b :: c :: r, _ => rfl
  | [a, b], h => exact absurd rfl h
/-! ### is_join -/
abbrev s_is_join : Stmt := top 28
theorem sc_is_join : FnScope ["many", "value", "step"] ["many", "value"] (defScope s_is_join) := ⟨rfl, rfl, rfl, by decide +kernel, rfl, by decide +kernel, by decide +kernel⟩
def spJoin (K : PySem.W.Frag) : Sp := fun vs H Q _ => ∃ (m : Addr) (ms : List (Str × Int)) (v : V) (d : PyData), vs = [.ref m, v] ∧ H m = some (.dK (mnK ms)) ∧ Dp K H v d ∧ SmJ d ∧ ∀ H', Same H H' → Q (.bl (jnB ms d)) H'
theorem ok_join {f : Addr} {fd : FuncData} (F : Fun K "is_join" "is_join" s_is_join f fd) (C_is_step : Cl P w K mg base "is_step" ["many", "value"] [] 3 (spStep K)) (n_all : mg "all" = none) (n_isinstance : mg "isinstance" = none) (n_len : mg "len" = none) (n_tuple : mg "tuple" = none) : FnOk P w K mg base CX0 4 f fd ["many", "value"] (spJoin K) := by
  refine F.ok sc_is_join (fun vs H Q E h => ?_) (fun cdv A outer s H vs Q E hr h => ?_)
  · obtain ⟨_, _, _, _, rfl, _⟩ := h
    rfl
  · obtain ⟨m, ms, v, d, rfl, em, dv, sm, q⟩ := h
    refine ⟨_, (Evl.pss_cut (ps_if (PW.pt (pw_or (pt_not (pt_val (pe_callB call_isi (by rfl) n_isinstance (by decide +kernel) (pa_cons (pv 1) (pa_cons (pe_bltn (v := .ty "tuple") (by rfl) n_tuple (by decide +kernel) rfl) pa_nil))))) (pw_or (pt_cmpR op_ne (pe_callB call_len_seq (by rfl) n_len PySem.boot_len (pa_cons (pv 1) pa_nil)) pe_int (nomark _)) (pw_or1 (pt_not (pt_val (pe_callB (cr_all rfl) (by rfl) n_all (by decide +kernel) (pa_cons (pe_lc (own := [("step", 2)]) (g := gName 2) rfl sc_is_join.nd (pi_seq (pv 1)) (blkOk_by (N := ["many", "value", "step"]) (sc := defScope s_is_join) (by decide +kernel)) (fun _ _ _ _ _ => pg_name (i := 2) sc_is_join.nd rfl (Or.inl rfl)) (fun _ _ _ _ _ => pts_nil) (fun _ _ _ _ _ => pe_use C_is_step (hr.mono (by decide)) rfl (pa_cons (pv 0) (pa_cons (pv 2) pa_nil)))) pa_nil)))))))) (pss_one (ps_ret pe_bl)) pss_nil)
    (pss_one (ps_ret (pe_cmpR op_ne (pe_ix ix_tup (pe_ix ix_tup (pv 1) pe_int (fun _ _ => rfl)) pe_int (fun _ _ => rfl)) (pe_ix ix_tup (pe_ix ix_tup (pv 1) pe_int (fun _ _ => rfl)) pe_int (fun _ _ => rfl)) (nomark _))))), ?_⟩
    have ty := ty_dp dv
    have kt := kit_tup dv
    cases dv with
    | @tup a xs ds ht ha =>
      have al := dpa_all ha
      have neq : ∀ n : Nat, n ≠ 2 → (!decide (V.int (n : Nat) = V.int 2)) = true := fun n h => by rw [decide_eq_false fun z => by injection z with z; omega]; rfl
      refine ⟨fun σ H' => σ = [some (.ref m), some (.ref a), none] ∧ Same H H' ∧ ∃ d1 d2, ds = [d1, d2] ∧ stB ms d1 = true ∧ stB ms d2 = true, ?_, ?_⟩
      · refine ⟨_, rfl, _, .ty "tuple", _, _, _, rfl, .ty "tuple", ty, kt, true, rfl, iteF ⟨_, rfl, a, _, rfl, .inr ht, rfl, _, rfl, ?_⟩⟩
        have ll := al.len
        by_cases c2 : ds.length = 2
        · rw [ll, c2]
          refine iteF ⟨_, rfl, a, _, rfl, .inr ht, fun J S W s0 D hD => ?_⟩
          refine lc_mf (ds := ds) W (fun _ => true) (fun _ y e => y = .bl (stB ms e)) s0 hD ll (fun i x e H' ex ee s k => ?_) (fun H' ys s e al2 => ?_)
          · refine ⟨rfl, _, rfl, _, rfl, m, ms, x, e, rfl, s _ _ em, dp_same s (at2 al ex ee), sm e (at_mem ee), ?_⟩
            exact mf_yes k hD (fun _ _ _ _ _ h => h) ee (by omega) (Same.refl _) rfl rfl
          · rw [Rd.filter_all] at al2
            have ey := bl_map al2
            refine ⟨D, _, rfl, SqL.of (by rw [← ey]; exact e), _, rfl, ?_⟩
            rw [all_map]
            match ds, c2 with
            | [d1, d2], _ =>
              have q : ∀ H', Same H H' → Q (.bl (stB ms d1 && (stB ms d2 && decide (nmOf d1 ≠ nmOf d2)))) H' := q
              cases c3 : stB ms d1 with
              | false =>
                rw [List.all_cons, c3]
                have q := q _ s
                rw [c3] at q
                exact iteT q
              | true =>
                cases c4 : stB ms d2 with
                | false =>
                  rw [List.all_cons, List.all_cons, c3, c4]
                  have q := q _ s
                  rw [c3, c4] at q
                  exact iteT q
                | true =>
                  rw [List.all_cons, List.all_cons, c3, c4]
                  exact iteF ⟨rfl, s, d1, d2, rfl, c3, c4⟩
        · have q := q _ (Same.refl _)
          rw [jn_len c2] at q
          rw [neq _ (by rw [ll]; exact c2)]
          exact iteT q
      rintro σ H' ⟨rfl, s, d1, d2, rfl, c3, c4⟩
      obtain ⟨x, i, n, rfl, e1⟩ := st_shape c3
      obtain ⟨y, j, n', rfl, e2⟩ := st_shape c4
      have q := q _ s
      have q : Q (.bl (stB ms (.tuple [.str x, .int i]) && (stB ms (.tuple [.str y, .int j]) && decide (x ≠ y)))) H' := q
      rw [c3, c4, Bool.true_and, Bool.true_and] at q
      cases al with
      | cons h1 r1 =>
        cases r1 with
        | cons h2 r2 =>
          cases r2
          cases h1 with
          | tup t1 a1 =>
            cases h2 with
            | tup t2 a2 =>
              cases dpa_all a1 with
              | cons g1 _ =>
                cases dpa_all a2 with
                | cons g2 _ =>
                  cases g1
                  cases g2
                  have fx := Fix.of s
                  refine ⟨_, rfl, a, _, _, _, rfl, rfl, tupFix fx ht, at0, _, _, _, _, rfl, rfl, tupFix fx t1, at0, _, rfl, a, _, _, _, rfl, rfl, tupFix fx ht, at1, _, _, _, _, rfl, rfl, tupFix fx t2, at0, rfl, ?_⟩
                  show Q (.bl (!decide (V.str x = V.str y))) H'
                  rw [neStr]
                  exact q
    | _ => exact ⟨fun _ _ => False, ⟨_, rfl, _, .ty "tuple", _, _, _, rfl, .ty "tuple", ty, kt, _, rfl, iteT (q _ (Same.refl _))⟩, fun _ _ h => h.elim⟩
end
end R0

namespace R0
open PySem PySem.Spec PyProof.Rows L2 Hb St Sq Ow En Zp RZ Rd Xb Da
/-! ### what instances leave alone -/
def FixI (H H' : Hp) : Prop := ∀ b o, H b = some o → (∀ C dx fs, o ≠ .ins C dx fs) → H' b = some o
theorem FixI.of {H H' : Hp} (s : Same H H') : FixI H H' := fun b o e _ => s b o e
theorem FixI.trans {H H1 H2 : Hp} (a : FixI H H1) (b : FixI H1 H2) : FixI H H2 := fun c o e n => b c o (a c o e n) n
theorem FixI.ins {H : Hp} {p C dx : Addr} {fs : List (Str × V)} {o : HO} (e : H p = some (.ins C dx fs)) : FixI H (upd H p o) := fun b u eb n => by
  rw [upd_ne fun z => n C dx fs (by rw [z, e] at eb; exact (Option.some.inj eb).symm)]; exact eb
theorem lst_fixI {K : PySem.W.Frag} {H H' : Hp} {a : Addr} {xs : List V} (f : FixI H H') (h : SqL K H a xs) : SqL K H' a xs := by
  rcases h with (e | ⟨o, e⟩) | r
  · exact .inl (.inl (f _ _ e fun _ _ _ z => by cases z))
  · exact .inl (.inr ⟨o, f _ _ e fun _ _ _ z => by cases z⟩)
  · exact .inr r
theorem tup_fixI {K : PySem.W.Frag} {H H' : Hp} {a : Addr} {xs : List V} (f : FixI H H') (h : SqT K H a xs) : SqT K H' a xs := by
  rcases h with (e | ⟨o, e⟩) | r
  · exact .inl (.inl (f _ _ e fun _ _ _ z => by cases z))
  · exact .inl (.inr ⟨o, f _ _ e fun _ _ _ z => by cases z⟩)
  · exact .inr r
mutual
theorem dp_fixI {K : PySem.W.Frag} {H H' : Hp} (s : FixI H H') : ∀ {d : PyData} {v : V}, Dp K H v d → Dp K H' v d
  | _, _, .non => .non
  | _, _, .bl b => .bl b
  | _, _, .int i => .int i
  | _, _, .str x => .str x
  | _, _, .lst h a => .lst (lst_fixI s h) (dpa_fixI s a)
  | _, _, .tup h a => .tup (tup_fixI s h) (dpa_fixI s a)
theorem dpa_fixI {K : PySem.W.Frag} {H H' : Hp} (s : FixI H H') : ∀ {ds : List PyData} {xs : List V}, DpAll K H xs ds → DpAll K H' xs ds
  | _, _, .nil => .nil
  | _, _, .cons h t => .cons (dp_fixI s h) (dpa_fixI s t)
end
theorem dpa_of {K : PySem.W.Frag} {H : Hp} : ∀ {vs : List V} {ds : List PyData}, All2 (Dp K H) vs ds → DpAll K H vs ds
  | _, _, .nil => .nil
  | _, _, .cons h t => .cons h (dpa_of t)
/-! ### dict comprehensions whose items are known -/
def DcW (H1 : Hp) (D : Addr) (kvs : List (Key × V)) (i : Nat) (H : Hp) : Prop := Same H1 H ∧ H D = some (.dK (kvs.take i))
theorem put_new {kvs : List (Key × V)} {k : Key} {z : V} (h : k ∉ kvs.map (·.1)) : putK kvs k z = kvs ++ [(k, z)] := by
  unfold putK
  rw [if_neg]
  intro e
  obtain ⟨p, hp, e⟩ := List.any_eq_true.mp e
  exact h (List.mem_map.mpr ⟨p, hp, of_decide_eq_true e⟩)
theorem dcw_yes {H1 H H' : Hp} {D : Addr} {kvs : List (Key × V)} {i : Nat} {k : Key} {z : V} (m : DcW H1 D kvs i H) (hD : H1 D = none) (nd : (kvs.map (·.1)).Nodup) (e : kvs[i]? = some (k, z)) (hl : kvs.length ≤ 1000) (s : Same H H') :
    ∃ kv k', kV k = kV k' ∧ H' D = some (.dK kv) ∧ kv.length < sizeLine ∧ DcW H1 D kvs (i + 1) (upd H' D (.dK (putK kv k' z))) := by
  have e' := s _ _ m.2
  refine ⟨_, k, rfl, e', ?_, fun b o eb => ?_, ?_⟩
  · have h3 : (kvs.take i).length ≤ kvs.length := by rw [List.length_take]; exact Nat.min_le_right _ _
    rw [sizeLine_eq]; omega
  · rw [upd_ne (ne_of_none eb hD)]; exact s b o (m.1 b o eb)
  · rw [upd_same, put_new, List.take_add_one, e]; rfl
    intro h
    obtain ⟨hi, e1⟩ := List.getElem?_eq_some_iff.mp e
    have := List.take_append_drop i kvs
    rw [List.drop_eq_getElem_cons hi, e1] at this
    rw [← this, List.map_append, List.nodup_append] at nd
    exact nd.2.2 _ h k (by simp) rfl
theorem dc_wk {J : It} {a : Addr} {S : Hp → Prop} {xs : List V} (W : Wk J a S xs) (kvs : List (Key × V)) {g : TG} {tt : TT} {tk tv : TE} {vs : List Nat} {σ : L2.St} {H1 : Hp} {D : Addr} {Qd : Hp → Prop} (hS : S H1) (hD : H1 D = none) (hl : xs.length = kvs.length)
    (hs : ∀ (i : Nat) x k z H, xs[i]? = some x → kvs[i]? = some (k, z) → DcW H1 D kvs i H → g x (wipe σ vs) H fun σ2 H2 => wipe σ2 vs = wipe σ vs ∧ tt σ2 H2 fun b H3 =>
      if b = true then tk σ2 H3 fun y H4 => tv σ2 H4 fun z H5 => ∃ kv k, y = kV k ∧ H5 D = some (.dK kv) ∧ kv.length < sizeLine ∧ DcW H1 D kvs (i + 1) (upd H5 D (.dK (putK kv k z))) else DcW H1 D kvs (i + 1) H3)
    (hd : ∀ H, Same H1 H → H D = some (.dK kvs) → Qd H) :
    ∃ W : Nat → Nat → Hp → Prop, (∃ m, W 0 m (upd H1 D (.dK []))) ∧ ∀ i m H, W i m H →
      (J.stop i H ∧ Qd H) ∨ (J.go i H ∧ ∃ Nx : Hp → Prop, (∀ H', Nx H' → ∃ m', m' < m ∧ W (i + 1) m' H') ∧ ∀ x H', J.yld i H x H' → g x (wipe σ vs) H' fun σ2 H2 => wipe σ2 vs = wipe σ vs ∧ tt σ2 H2 fun b H3 =>
        if b = true then tk σ2 H3 fun y H4 => tv σ2 H4 fun z H5 => ∃ kv k, y = kV k ∧ H5 D = some (.dK kv) ∧ kv.length < sizeLine ∧ Nx (upd H5 D (.dK (putK kv k z))) else Nx H3) := by
  refine ⟨fun i m H => m + i = xs.length ∧ DcW H1 D kvs i H, ⟨xs.length, rfl, fun b o e => by rw [upd_ne (ne_of_none e hD)]; exact e, upd_same⟩, fun i m H ⟨e, p⟩ => ?_⟩
  have st : S H := W.keep (fun o eo => p.1 _ _ eo) hS
  cases m with
  | zero =>
    obtain rfl : i = xs.length := by omega
    refine .inl ⟨W.stop H st, hd H p.1 ?_⟩
    rw [p.2, List.take_of_length_le (by rw [hl]; exact Nat.le_refl _)]
  | succ m =>
    have hi : i < xs.length := by omega
    refine .inr ⟨W.go i H hi st, DcW H1 D kvs (i + 1), fun H' p' => ⟨m, Nat.lt_succ_self m, by omega, p'⟩, fun v H' y => ?_⟩
    obtain ⟨rfl, ed⟩ := W.yld i H v H' hi st y
    obtain ⟨⟨k, z⟩, ek⟩ : ∃ p, kvs[i]? = some p := ⟨_, List.getElem?_eq_getElem (by omega)⟩
    exact hs i v k z _ ed ek p
/-! ### what is wrong of rooms and joins -/
def manyD (d : PyData) : List (Str × Int) := (itemsD d).map fun e => (nmOf e, ((itemsD (tlOf e)).length : Int))
def jsB (dr d : PyData) : Bool := seqD d && (itemsD d).all (jnB (manyD dr))
def rmErr (dr dg dc : PyData) : Option Nat := if arD dr = false then some 0 else if jsB dr dg = false then some 1 else if jsB dr dc = false then some 2 else none
theorem nd_inr {l : List Str} (h : l.Nodup) : (l.map (Sum.inr : Str → Key)).Nodup := by
  induction l with
  | nil => exact List.nodup_nil
  | cons x r ih =>
    obtain ⟨h1, h2⟩ := List.nodup_cons.mp h
    rw [List.map_cons]
    refine List.nodup_cons.mpr ⟨fun z => ?_, ih h2⟩
    obtain ⟨y, hy, e⟩ := List.mem_map.mp z
    exact h1 (Sum.inr.inj e ▸ hy)
theorem tup_of {K : PySem.W.Frag} {H : Hp} {v : V} {d : PyData} (dv : Dp K H v d) (c : seqD d = true) : ∃ p ys, v = .ref p ∧ DpAll K H ys (itemsD d) ∧ (SqL K H p ys ∨ SqT K H p ys) := by
  cases dv with
  | lst h a => exact ⟨_, _, rfl, a, .inl h⟩
  | tup h a => exact ⟨_, _, rfl, a, .inr h⟩
  | _ => cases c
theorem js_seq {dr d : PyData} (h : jsB dr d = true) : seqD d = true := by
  unfold jsB at h
  rw [Bool.and_eq_true] at h
  exact h.1
theorem ar_of {d : PyData} (h : arD d = true) : seqD d = true ∧ (itemsD d).length ≤ 3 ∧ (itemsD d).all rmlD = true ∧ ((itemsD d).map nmOf).Nodup ∧ ((itemsD d).all fun e => taleD (tlOf e)) = true := by
  unfold arD at h
  simp only [Bool.and_eq_true, decide_eq_true_eq] at h
  exact ⟨h.1, h.2.1.2, h.2.2.1, h.2.2.2.1, h.2.2.2.2⟩
theorem many_keys (d : PyData) : (mnK (manyD d)).map (·.1) = ((itemsD d).map nmOf).map Sum.inr := by
  unfold mnK manyD
  rw [List.map_map, List.map_map, List.map_map]; rfl
theorem many_at {d : PyData} {i : Nat} {k : Key} {z : V} (h : (mnK (manyD d))[i]? = some (k, z)) : ∃ e, (itemsD d)[i]? = some e ∧ k = Sum.inr (nmOf e) ∧ z = .int ((itemsD (tlOf e)).length : Int) := by
  unfold mnK manyD at h
  rw [List.map_map, List.getElem?_map] at h
  cases c : (itemsD d)[i]? with
  | none => rw [c] at h; cases h
  | some e =>
    rw [c] at h
    injection h with h
    injection h with h1 h2
    exact ⟨e, rfl, h1.symm, h2.symm⟩
theorem js_of {dr d : PyData} (h1 : seqD d = true) (h2 : (itemsD d).all (jnB (manyD dr)) = true) : jsB dr d = true := by
  unfold jsB
  rw [h1, h2]; rfl
theorem js_no {dr d : PyData} (h1 : seqD d = false) : jsB dr d = false := by
  unfold jsB
  rw [h1]; rfl
theorem js_no2 {dr d : PyData} (h2 : (itemsD d).all (jnB (manyD dr)) = false) : jsB dr d = false := by
  unfold jsB
  rw [h2, Bool.and_false]
theorem err_none {dr dg dc : PyData} (h : arD dr = true) (h1 : jsB dr dg = true) (h2 : jsB dr dc = true) : rmErr dr dg dc = none := by
  unfold rmErr
  rw [if_neg (by rw [h]; decide), if_neg (by rw [h1]; decide), if_neg (by rw [h2]; decide)]
theorem err_0 {dr dg dc : PyData} (h : arD dr = false) : rmErr dr dg dc = some 0 := by
  unfold rmErr
  rw [if_pos h]
theorem err_1 {dr dg dc : PyData} (h : arD dr = true) (h1 : jsB dr dg = false) : rmErr dr dg dc = some 1 := by
  unfold rmErr
  rw [if_neg (by rw [h]; decide), if_pos h1]
theorem err_2 {dr dg dc : PyData} (h : arD dr = true) (h1 : jsB dr dg = true) (h2 : jsB dr dc = false) : rmErr dr dg dc = some 2 := by
  unfold rmErr
  rw [if_neg (by rw [h]; decide), if_neg (by rw [h1]; decide), if_pos h2]
/-- the class of rooms -/
structure RmT (K : PySem.W.Frag) (C : Addr) : Prop where
  cl : Cls K C
  nR : NoAttr K C "rooms"
  nG : NoAttr K C "gongs"
  nC : NoAttr K C "calls"
  x1 : PySem.W.findIn K (.ref C) "__class__" = some (some (.builtin "object.__class__"))
  x2 : PySem.W.specialIn K (.builtin "object.__class__") "__get__" = some (some (.builtin "getset_descriptor.__get__"))
  x3 : PySem.W.takesIn K (.builtin "object.__class__") = some true
  x4 : PySem.W.mroIn K C (.type "object") = some true
  kC : PySem.W.kitOne K (.ref C) (.ref C) = some true
  kS : PySem.W.kitOne K (.type "str") (.ref C) = some false
def errH (at_ : Int) : HO := .xd [(("at" : Str), .int at_)]
/-- rooms that were made, at m -/
def RmAt (K : PySem.W.Frag) (C : Addr) (H : Hp) (m : Addr) (dr dg dc : List PyData) : Prop := ∃ dx a b c, H m = some (.ins C dx [("rooms", .ref a), ("gongs", .ref b), ("calls", .ref c)]) ∧ Dp K H (.ref a) (.tuple dr) ∧ Dp K H (.ref b) (.tuple dg) ∧ Dp K H (.ref c) (.tuple dc)
section
variable {P : Program} {w : World} {K : PySem.W.Frag} {mg : Str → Option Value} {base : Heap}
/-! ### Rooms.__init__ -/
abbrev s_Rooms___init__ : Stmt := inClass (top 22) 0
theorem sc_Rooms___init__ : FnScope ["self", "rooms", "gongs", "calls", "many", "at", "joins", "name", "tale", "join"] ["self", "rooms", "gongs", "calls"] (defScope s_Rooms___init__) := ⟨rfl, rfl, rfl, by decide +kernel, rfl, by decide +kernel, by decide +kernel⟩
def spInit (K : PySem.W.Frag) (C CR : Addr) : Sp := fun vs H Q E => ∃ (x dx : Addr) (vr vg vc : V) (dr dg dc : PyData), vs = [.ref x, vr, vg, vc] ∧ H x = some (.ins C dx []) ∧ Dp K H vr dr ∧ Dp K H vg dg ∧ Dp K H vc dc ∧ SmR dr ∧ SmJs dg ∧ SmJs dc ∧
  (rmErr dr dg dc = none → ∀ H', Kept x H H' → RmAt K C H' x (itemsD dr) (itemsD dg) (itemsD dc) → Q .non H') ∧
  ∀ k : Nat, rmErr dr dg dc = some k → ∀ dd H', Same H H' → H' dd = some (errH k) → E (.ref CR) (some dd) H'
theorem ok_init {f C CR fI eg ec : Addr} {fd : FuncData} (F : FunD K "__init__" "Rooms.__init__" (defArgs s_Rooms___init__) (defBody s_Rooms___init__) (defScope s_Rooms___init__) [.ref eg, .ref ec] [] f fd) (TC : RmT K C) (T : ErrC K mg "InvalidRooms" CR fI) (C_are_rooms : Cl P w K mg base "are_rooms" ["value"] [] 4 (spAreR K w)) (C_is_join : Cl P w K mg base "is_join" ["many", "value"] [] 4 (spJoin K)) (C_is_sequence : Cl P w K mg base "is_sequence" ["value"] [] 1 (spSeq K)) (n_all : mg "all" = none) (n_enumerate : mg "enumerate" = none) (n_len : mg "len" = none) (n_tuple : mg "tuple" = none) : FnOk P w K mg base (L2.CX P w) 5 f fd ["self", "rooms", "gongs", "calls"] (spInit K C CR) := by
  refine F.ok sc_Rooms___init__ (fun vs H Q E h => ?_) (fun cdv A outer s H vs Q E hr h => ?_)
  · obtain ⟨_, _, _, _, _, _, _, _, rfl, _⟩ := h
    rfl
  · obtain ⟨x, dx, vr, vg, vc, dr, dg, dc, rfl, hx, dvr, dvg, dvc, smr, smg, smc, q, qe⟩ := h
    refine ⟨_, (Evl.pss_cut (ps_if (pt_not (pt_val (pe_use C_are_rooms (hr.mono (by decide)) rfl (pa_cons (pv 1) pa_nil)))) (pss_one (ps_raiseAt rfl T hr (takes_of rfl rfl rfl rfl) (pa_cons pe_int pa_nil) rfl)) pss_nil)
    (pss_cons (ps_set (i := 4) sc_Rooms___init__.nd rfl (Or.inr rfl) (pe_dc (own := [("name", 7), ("tale", 8)]) (g := gTup K 2 (gCons (gName 7) (gCons (gName 8) gNil))) rfl sc_Rooms___init__.nd (pi_seq (pv 1)) (blkOk_by (N := ["self", "rooms", "gongs", "calls", "many", "at", "joins", "name", "tale", "join"]) (sc := defScope s_Rooms___init__) (by decide +kernel)) (fun _ _ _ _ _ => pg_tup rfl (pgs_cons (pg_name (i := 7) sc_Rooms___init__.nd rfl (Or.inl rfl)) (pgs_cons (pg_name (i := 8) sc_Rooms___init__.nd rfl (Or.inl rfl)) pgs_nil))) (fun _ _ _ _ _ => pts_nil) (fun _ _ _ _ _ => pv 7) (fun _ _ _ _ _ => pe_callB (id := "len") (r := rLenK K) call_len_seq (by rfl) n_len PySem.boot_len (pa_cons (pv 8) pa_nil))))
    (Evl.pss_cut (ps_for (passes_of rfl) rfl (pi_enumT (by rfl) n_enumerate (pa_cons (pe_tup (pa_cons (pv 2) (pa_cons (pv 3) pa_nil))) pa_nil)) (pg_tup rfl (pgs_cons (pg_name (i := 5) sc_Rooms___init__.nd rfl (Or.inl rfl)) (pgs_cons (pg_name (i := 6) sc_Rooms___init__.nd rfl (Or.inl rfl)) pgs_nil)))
      (pss_one (ps_if (PW.pt (pw_or (pt_not (pt_val (pe_use C_is_sequence (hr.mono (by decide)) rfl (pa_cons (pv 6) pa_nil)))) (pw_or1 (pt_not (pt_val (pe_callB (cr_all rfl) (by rfl) n_all (by decide +kernel) (pa_cons (pe_lc (own := [("join", 9)]) (g := gName 9) rfl sc_Rooms___init__.nd (pi_seq (pv 6)) (blkOk_by (N := ["self", "rooms", "gongs", "calls", "many", "at", "joins", "name", "tale", "join"]) (sc := defScope s_Rooms___init__) (by decide +kernel)) (fun _ _ _ _ _ => pg_name (i := 9) sc_Rooms___init__.nd rfl (Or.inl rfl)) (fun _ _ _ _ _ => pts_nil) (fun _ _ _ _ _ => pe_use C_is_join (hr.mono (by decide)) rfl (pa_cons (pv 4) (pa_cons (pv 9) pa_nil)))) pa_nil))))))) (pss_one (ps_raiseAt rfl T hr (takes_of rfl rfl rfl rfl) (pa_cons (pe_op op_add (pv 5) pe_int) pa_nil) rfl)) pss_nil)))
    (Evl.pss_cut (ps_fld (pv 0) (pe_callTy call_tuple_of (by rfl) n_tuple (by decide +kernel) (pa_cons (pv 1) pa_nil)) rfl)
    (Evl.pss_cut (ps_fld (pv 0) (pe_callTy call_tuple_of (by rfl) n_tuple (by decide +kernel) (pa_cons (pv 2) pa_nil)) rfl)
    (pss_one (ps_fld (pv 0) (pe_callTy call_tuple_of (by rfl) n_tuple (by decide +kernel) (pa_cons (pv 3) pa_nil)) rfl))))))), ?_⟩
    refine ⟨fun σ H' => σ = [some (.ref x), some vr, some vg, some vc, none, none, none, none, none, none] ∧ Same H H' ∧ arD dr = true, ?_, ?_⟩
    · refine ⟨_, rfl, vr, dr, rfl, dvr, smr, fun H1 s1 => ⟨_, rfl, ?_⟩⟩
      cases c : arD dr with
      | true => exact iteF ⟨rfl, s1, rfl⟩
      | false => exact iteT ⟨_, rfl, fun dd hn => qe 0 (err_0 c) dd _ (s1.trans (same_new hn _)) upd_same⟩
    rintro σ H1 ⟨rfl, s1, c1⟩
    obtain ⟨sq, l3, allR, nd, allT⟩ := ar_of c1
    obtain ⟨ra, rxs, rfl, hrx, ral⟩ := seq_of (dp_same s1 dvr) sq
    refine ⟨_, rfl, ra, rxs, rfl, hrx, fun J S W s0 D hD => ?_⟩
    refine dc_wk W (mnK (manyD dr)) s0 hD (by unfold mnK manyD; rw [List.length_map, List.length_map]; exact ral.len) (fun i y k z H2 ey ek m => ?_) (fun H2 s2 eD => ?_)
    · obtain ⟨e, ee, rfl, rfl⟩ := many_at ek
      have re := List.all_eq_true.mp allR e (at_mem ee)
      have te := List.all_eq_true.mp allT e (at_mem ee)
      obtain ⟨b, x', t, vt, rfl, rfl, hb, ht, nx⟩ := rml_of (dp_same m.1 (at2 ral ey ee)) re
      have te : taleD t = true := te
      cases ht with
      | @tup tb ys ds h1 h2 =>
        refine ⟨b, _, rfl, hb, rfl, _, _, rfl, _, _, rfl, rfl, rfl, _, rfl, _, rfl, tb, _, rfl, .inr h1, ?_⟩
        rw [(dpa_all h2).len]
        exact dcw_yes m hD (by rw [many_keys]; exact nd_inr nd) ek (by unfold mnK manyD; rw [List.length_map, List.length_map]; omega) (Same.refl _)
      | _ => cases te
    have s12 := s1.trans s2
    refine ⟨fun σ H' => (∃ o5 o6, σ = [some (.ref x), some (.ref ra), some vg, some vc, some (.ref D), o5, o6, none, none, none]) ∧ Same H2 H' ∧ jsB dr dg = true ∧ jsB dr dc = true, ?_, ?_⟩
    · refine ⟨_, rfl, _, rfl, by show 2 ≤ sizeLine; decide, fun t ht => ⟨t, rfl, ⟨_, SqT.of upd_same⟩, ?_⟩⟩
      have s3 := same_new ht (.tup [vg, vc])
      have et : upd H2 t (.tup [vg, vc]) t = some (.tup [vg, vc]) := upd_same
      generalize upd H2 t (.tup [vg, vc]) = H3 at s3 et ⊢
      refine for_en en_tup (fun i σ H' => (∃ o5 o6, σ = [some (.ref x), some (.ref ra), some vg, some vc, some (.ref D), o5, o6, none, none, none]) ∧ Same H3 H' ∧ (1 ≤ i → jsB dr dg = true) ∧ (2 ≤ i → jsB dr dc = true)) ⟨⟨none, none, rfl⟩, Same.refl _, fun z => absurd z (by decide), fun z => absurd z (by decide)⟩ (fun i σ H' pv => SqT.of (pv.2.1 _ _ et)) ?_ ?_
      · rintro i σ H4 y T ey ⟨⟨o5, o6, rfl⟩, s4, j1, j2⟩ hT
        have s5 := same_new hT (.tup [.int (i : Nat), y])
        have s35 := (s3.trans s4).trans s5
        have s05 := s12.trans s35
        obtain ⟨d, dv, sd, fail, good⟩ : ∃ d, Dp K H y d ∧ SmJs d ∧ (jsB dr d = false → rmErr dr dg dc = some (i + 1)) ∧ (jsB dr d = true → (1 ≤ i + 1 → jsB dr dg = true) ∧ (2 ≤ i + 1 → jsB dr dc = true)) := by
          match i, ey, j1 with
          | 0, ey, _ =>
            obtain rfl : vg = y := Option.some.inj ey
            exact ⟨dg, dvg, smg, fun z => err_1 c1 z, fun z => ⟨fun _ => z, fun z => absurd z (by decide)⟩⟩
          | 1, ey, j1 =>
            obtain rfl : vc = y := Option.some.inj ey
            exact ⟨dc, dvc, smc, fun z => err_2 c1 (j1 (by decide)) z, fun z => ⟨fun _ => j1 (by decide), fun _ => z⟩⟩
          | n + 2, ey, _ => cases ey
        refine ⟨T, _, rfl, SqT.of upd_same, rfl, _, _, rfl, _, _, rfl, rfl, ?_⟩
        generalize upd H4 T (.tup [.int (i : Nat), y]) = H5 at s5 s35 s05 ⊢
        have eD5 := s35 _ _ eD
        refine ⟨_, rfl, y, d, rfl, dp_same s05 dv, fun H6 s6 => ⟨_, rfl, ?_⟩⟩
        have raise : ∀ {H7 : Hp} {dd : Addr}, Same H H7 → H7 dd = none → jsB dr d = false → E (.ref CR) (some dd) (upd H7 dd (.xd [(("at" : Str), .int ((i : Nat) + 1 : Int))])) := fun {H7 dd} s7 hn c => by
          have e1 : (.int ((i : Nat) + 1 : Int) : V) = .int ((i + 1 : Nat) : Int) := by congr 1
          rw [e1]
          exact qe (i + 1) (fail c) dd _ (s7.trans (same_new hn _)) upd_same
        cases c2 : seqD d with
        | false => exact iteT ⟨_, rfl, _, _, rfl, rfl, _, rfl, fun dd hn => raise (s05.trans s6) hn (js_no c2)⟩
        | true =>
          obtain ⟨ja, jxs, rfl, hjx, jal⟩ := seq_of (dp_same (s05.trans s6) dv) c2
          refine iteF ⟨_, rfl, ja, jxs, rfl, hjx, fun J S W s0 D2 hD2 => ?_⟩
          refine lc_mf (ds := itemsD d) W (fun _ => true) (fun _ y e => y = .bl (jnB (manyD dr) e)) s0 hD2 jal.len (fun i' x' e H7 ex ee s7 m => ?_) (fun H7 ys s7 e7 al2 => ?_)
          · refine ⟨rfl, _, rfl, _, rfl, D, manyD dr, x', e, rfl, s7 _ _ (s6 _ _ eD5), dp_same s7 (at2 jal ex ee), sd.2 e (at_mem ee), fun H8 s8 => ?_⟩
            exact mf_yes m hD2 (fun _ _ _ _ _ h => h) ee (by have := sd.1; omega) s8 rfl rfl
          · rw [Rd.filter_all] at al2
            have ey2 := bl_map al2
            refine ⟨D2, _, rfl, SqL.of (by rw [← ey2]; exact e7), _, rfl, ?_⟩
            rw [all_map]
            cases c3 : (itemsD d).all (jnB (manyD dr)) with
            | true =>
              have g := good (js_of c2 c3)
              exact iteF ⟨⟨_, _, rfl⟩, ((s4.trans s5).trans s6).trans s7, g.1, g.2⟩
            | false => exact iteT ⟨_, rfl, _, _, rfl, rfl, _, rfl, fun dd hn => raise ((s05.trans s6).trans s7) hn (js_no2 c3)⟩
      · rintro σ H4 ⟨h1, s4, j1, j2⟩
        exact ⟨h1, s3.trans s4, j1 (show 1 ≤ 2 by decide), j2 (show 2 ≤ 2 by decide)⟩
    rintro σ H3 ⟨⟨o5, o6, rfl⟩, s3, j1, j2⟩
    have s13 := s12.trans s3
    have q := q (err_none c1 j1 j2)
    have hx3 := s13 _ _ hx
    let σ1 : L2.St := [some (.ref x), some (.ref ra), some vg, some vc, some (.ref D), o5, o6, none, none, none]
    refine ⟨fun σ H' => σ = σ1 ∧ Kept x H H' ∧ FixI H H' ∧ ∃ pa, H' x = some (.ins C dx [("rooms", .ref pa)]) ∧ Dp K H' (.ref pa) (.tuple (itemsD dr)), ?_, ?_⟩
    · have step : ∀ pa H4, Same H3 H4 → Dp K H4 (.ref pa) (.tuple (itemsD dr)) → H4 x = some (.ins C dx []) ∧ (σ1 = σ1 ∧ Kept x H (upd H4 x (.ins C dx (putF "rooms" (.ref pa) []))) ∧ FixI H (upd H4 x (.ins C dx (putF "rooms" (.ref pa) []))) ∧ ∃ pa', (upd H4 x (.ins C dx (putF "rooms" (.ref pa) []))) x = some (.ins C dx [("rooms", .ref pa')]) ∧ Dp K (upd H4 x (.ins C dx (putF "rooms" (.ref pa) []))) (.ref pa') (.tuple (itemsD dr))) := fun pa H4 s4 d4 =>
        ⟨s4 _ _ hx3, rfl, (Hb.Same.kept (s13.trans s4)).trans kept_upd, (FixI.of (s13.trans s4)).trans (FixI.ins (s4 _ _ hx3)), pa, upd_same, dp_fixI (FixI.ins (s4 _ _ hx3)) d4⟩
      obtain ⟨p, ys, e, a, h | h⟩ := tup_of (dp_same s13 dvr) sq
      · refine ⟨_, rfl, p, ys, by rw [e], .inl ⟨h, fun l hl => ?_⟩⟩
        have z := step l _ (same_new hl _) (.tup (SqT.of upd_same) (dpa_same (same_new hl _) a))
        exact ⟨_, rfl, x, C, dx, _, rfl, z.1, TC.cl, TC.nR, (by show 0 < 1000; decide), z.2⟩
      · have z := step p _ (Same.refl _) (.tup h a)
        exact ⟨_, rfl, p, ys, by rw [e], .inr ⟨h, _, rfl, x, C, dx, _, rfl, z.1, TC.cl, TC.nR, (by show 0 < 1000; decide), z.2⟩⟩
    rintro σ H5 ⟨rfl, k5, f5, pa, hx5, d5⟩
    refine ⟨fun σ H' => σ = σ1 ∧ Kept x H H' ∧ FixI H H' ∧ ∃ pa pb, H' x = some (.ins C dx [("rooms", .ref pa), ("gongs", .ref pb)]) ∧ Dp K H' (.ref pa) (.tuple (itemsD dr)) ∧ Dp K H' (.ref pb) (.tuple (itemsD dg)), ?_, ?_⟩
    · have step : ∀ pb H4, Same H5 H4 → Dp K H4 (.ref pb) (.tuple (itemsD dg)) → H4 x = some (.ins C dx [("rooms", .ref pa)]) ∧ (σ1 = σ1 ∧ Kept x H (upd H4 x (.ins C dx (putF "gongs" (.ref pb) [("rooms", .ref pa)]))) ∧ FixI H (upd H4 x (.ins C dx (putF "gongs" (.ref pb) [("rooms", .ref pa)]))) ∧ ∃ pa' pb', (upd H4 x (.ins C dx (putF "gongs" (.ref pb) [("rooms", .ref pa)]))) x = some (.ins C dx [("rooms", .ref pa'), ("gongs", .ref pb')]) ∧
          Dp K (upd H4 x (.ins C dx (putF "gongs" (.ref pb) [("rooms", .ref pa)]))) (.ref pa') (.tuple (itemsD dr)) ∧ Dp K (upd H4 x (.ins C dx (putF "gongs" (.ref pb) [("rooms", .ref pa)]))) (.ref pb') (.tuple (itemsD dg))) := fun pb H4 s4 d4 =>
        ⟨s4 _ _ hx5, rfl, (k5.trans (Hb.Same.kept s4)).trans kept_upd, (f5.trans (FixI.of s4)).trans (FixI.ins (s4 _ _ hx5)), pa, pb, upd_same, dp_fixI (FixI.ins (s4 _ _ hx5)) (dp_same s4 d5), dp_fixI (FixI.ins (s4 _ _ hx5)) d4⟩
      obtain ⟨p, ys, e, a, h | h⟩ := tup_of (dp_fixI f5 dvg) (js_seq j1)
      · refine ⟨_, rfl, p, ys, by rw [e], .inl ⟨h, fun l hl => ?_⟩⟩
        have z := step l _ (same_new hl _) (.tup (SqT.of upd_same) (dpa_same (same_new hl _) a))
        exact ⟨_, rfl, x, C, dx, _, rfl, z.1, TC.cl, TC.nG, (by show 1 < 1000; decide), z.2⟩
      · have z := step p _ (Same.refl _) (.tup h a)
        exact ⟨_, rfl, p, ys, by rw [e], .inr ⟨h, _, rfl, x, C, dx, _, rfl, z.1, TC.cl, TC.nG, (by show 1 < 1000; decide), z.2⟩⟩
    rintro σ H7 ⟨rfl, k7, f7, pa, pb, hx7, d7, e7⟩
    have step : ∀ pc H4, Same H7 H4 → Dp K H4 (.ref pc) (.tuple (itemsD dc)) → H4 x = some (.ins C dx [("rooms", .ref pa), ("gongs", .ref pb)]) ∧ Q .non (upd H4 x (.ins C dx (putF "calls" (.ref pc) [("rooms", .ref pa), ("gongs", .ref pb)]))) := fun pc H4 s4 d4 => by
      have f9 := FixI.ins (o := .ins C dx (putF "calls" (.ref pc) [("rooms", .ref pa), ("gongs", .ref pb)])) (s4 _ _ hx7)
      exact ⟨s4 _ _ hx7, q _ ((k7.trans (Hb.Same.kept s4)).trans kept_upd) ⟨dx, pa, pb, pc, upd_same, dp_fixI f9 (dp_same s4 d7), dp_fixI f9 (dp_same s4 e7), dp_fixI f9 d4⟩⟩
    obtain ⟨p, ys, e, a, h | h⟩ := tup_of (dp_fixI f7 dvc) (js_seq j2)
    · refine ⟨_, rfl, p, ys, by rw [e], .inl ⟨h, fun l hl => ?_⟩⟩
      have z := step l _ (same_new hl _) (.tup (SqT.of upd_same) (dpa_same (same_new hl _) a))
      exact ⟨_, rfl, x, C, dx, _, rfl, z.1, TC.cl, TC.nC, (by show 2 < 1000; decide), z.2⟩
    · have z := step p _ (Same.refl _) (.tup h a)
      exact ⟨_, rfl, p, ys, by rw [e], .inr ⟨h, _, rfl, x, C, dx, _, rfl, z.1, TC.cl, TC.nC, (by show 2 < 1000; decide), z.2⟩⟩
end
end R0

/-! != by an own __eq__ (no own __ne__); == and != with a text on the other side -/
namespace Ow
open PySem PySem.Spec PyProof.Rows L2 Hb PySem.SeqAt
section
variable {M : Model} {prog : Program} {w : World} {A : Around} {E : Value → Shared → Prop} {s : Shared} {K : PySem.W.Frag} {x C f : Addr} {ox : Obj} {od : Option Obj} {b tb : Value}
theorem ifBound_objNe {args : List Value} {Q : Option Value → Shared → Prop} (X : K.In s.heap) (I : PySem.W.InstAt s.heap x ox C od) (hs : PySem.W.findIn K (.ref C) "__ne__" = some (some (.builtin "object.__ne__")))
    (h : wpAny M A (call (.builtin "object.__ne__") (.ref x :: args)) (fun v => Q (some v)) E s) : wpAny M A (callSpecialIfBound? (.ref x) "__ne__" args) Q E s := by
  simp only [callSpecialIfBound?, bindSpecialIfBound?]
  refine wpAny_holding (wpAny_bind (wpAny_bind (wpAny_bind (I.type.here ((PySem.W.looks_findIn X hs).here ?_)))))
  refine wpAny_bind (wpAny_askSetting (wpAny_ite ?_))
  have fin : wpAny M A (call (.builtin "object.__ne__") ([.ref x] ++ args) >>= fun v => pure (some v)) Q E s := wpAny_bind (wpAny_mono h (fun v s' h' => wpAny_pure h') fun _ _ h' => h')
  split
  · exact wpAny_bind (wpAny_of_eq (F.cmp_object.ne.bind _) (wpAny_pure (by exact fin)))
  · exact wpAny_tryCatch (wpAny_bind (wpAny_of_eq (F.cmp_object.ne.bind _) (wpAny_pure (by exact fin))))
theorem objNe_entryK (X : K.In s.heap) (I : PySem.W.InstAt s.heap x ox C od) (hs : PySem.W.findIn K (.ref C) "__eq__" = some (some (.ref f))) (hf : PySem.W.isFn K (.ref f) = true) (hu : A.units < cLine) {Q : Fin → Shared → Prop}
    (hcall : wpAny (model prog w) A (call (.ref f) [.ref x, b]) (fun v s' => ∃ k, v = .bool k ∧ Q (.done (.ret (.bool (!k)))) s') E s) :
    wpAny (model prog w) A (Builtin.«object.__ne__» ⟨[.ref x, b], []⟩) Q E s := by
  unfold Builtin.«object.__ne__»
  repeat (first
    | with_reducible refine wpAny_cRoomFor hu ?_
    | (refine wpAny_bind (m := callSpecialIfBound? (.ref x) (Str.ofString "__eq__") [b])
        (PySem.W.ifBound_K X I hs hf (wpAny_mono hcall (fun v s' hr => by
          obtain ⟨k, rfl, hq⟩ := hr
          repeat (first | exact hq | exact wpAny_pure hq | exact wpAny_truthy_bool hq | (refine wpAny_bind (m := truthy (.bool _)) (wpAny_truthy_bool ?_)) | wp_step)) fun _ _ e => e)))
    | wp_step)
theorem tryNe_K (X : K.In s.heap) (I : PySem.W.InstAt s.heap x ox C od) (hs : PySem.W.findIn K (.ref C) "__eq__" = some (some (.ref f))) (hf : PySem.W.isFn K (.ref f) = true) (hn : PySem.W.findIn K (.ref C) "__ne__" = some (some (.builtin "object.__ne__"))) (hm : PySem.W.mroIn K C (.type "object") = some true) (hu : A.units + 1 < cLine) {Q : Value → Shared → Prop}
    (hcall : wpAny (model prog w) A.in1 (call (.ref f) [.ref x, b]) (fun v s' => ∃ k, v = .bool k ∧ Q (.bool (!k)) s') E s) :
    wpAny (model prog w) A (tryCompare (.ref x) "__ne__" b) (fun r s' => ∃ v, r = some v ∧ Q v s') E s := by
  unfold tryCompare
  refine wpAny_bind (ifBound_objNe X I hn (wpAny_call (codeAny_call_builtin F.cmp_object.ne.plain F.cmpEntry_ne (PySem.W.check_slot F.cmpKind_ne F.cmpSplit_ne (I.type.andThen (PySem.W.looks_mroIn X hm)) (F.cmpArgs_ne _ _)
    (objNe_entryK (A := A.in1) X I hs hf hu (wpAny_mono hcall (fun v s' hv => ?_) fun _ _ e => e))))))
  obtain ⟨k, rfl, hq⟩ := hv
  first | exact ⟨k, rfl, wpAny_pure ⟨_, rfl, hq⟩⟩ | exact ⟨k, rfl, wpAny_pure (wpAny_pure ⟨_, rfl, hq⟩)⟩ | exact ⟨k, rfl, ⟨_, rfl, hq⟩⟩
theorem ne_K {Q : Value → Shared → Prop} (hu : A.units + 1 < cLine) (X : K.In s.heap) (I : PySem.W.InstAt s.heap x ox C od) (hb : PySem.W.Looks (model prog w) s.heap (typeOf b) tb) (hnf : PySem.W.notFirst K C tb = true)
    (hs : PySem.W.findIn K (.ref C) "__eq__" = some (some (.ref f))) (hf : PySem.W.isFn K (.ref f) = true) (hn : PySem.W.findIn K (.ref C) "__ne__" = some (some (.builtin "object.__ne__"))) (hm : PySem.W.mroIn K C (.type "object") = some true)
    (hcall : wpAny (model prog w) A.in1 (call (.ref f) [.ref x, b]) (fun v s' => ∃ k, v = .bool k ∧ Q (.bool (!k)) s') E s) : wpAny (model prog w) A (richCompare .NotEq (.ref x) b) Q E s := by
  have one := tryNe_K (A := A) X I hs hf hn hm hu hcall
  unfold richCompare
  simp only [oneThing_ref]
  refine wpAny_holding (wpAny_bind (wpAny_cRoomFor (Nat.lt_of_succ_lt hu) ?_))
  rw [cmpInfo_NotEq]
  dsimp only
  refine wpAny_bind (I.type.here (wpAny_bind (hb.here ?_)))
  split
  · rename_i q
    have e : PySem.W.subIn K tb (.ref C) = some false := by
      rcases Bool.or_eq_true_iff.mp hnf with e | e
      · rw [beq_iff_eq.mp e] at q; simp at q
      · exact beq_iff_eq.mp e
    refine wpAny_bind ((PySem.W.looks_subIn X e).here ?_)
    simp only [Bool.false_eq_true, if_false]
    refine wpAny_bind (wpAny_mono one (fun r s' z => ?_) fun _ _ e => e)
    obtain ⟨v, rfl, hq⟩ := z
    exact wpAny_pure hq
  · refine wpAny_bind (wpAny_pure ?_)
    simp only [Bool.false_eq_true, if_false]
    refine wpAny_bind (wpAny_mono one (fun r s' z => ?_) fun _ _ e => e)
    obtain ⟨v, rfl, hq⟩ := z
    exact wpAny_pure hq
end
/-- what the own __eq__ needs of the class -/
structure EqC (K : PySem.W.Frag) (C : Addr) : Prop where
  sS : PySem.W.subIn K (.type "str") (.ref C) = some false
  ne : PySem.W.findIn K (.ref C) "__ne__" = some (some (.builtin "object.__ne__"))
  mo : PySem.W.mroIn K C (.type "object") = some true
def OtherE (C : Addr) (H : Hp) (y : V) : Prop := (∃ b dy gs, y = .ref b ∧ H b = some (.ins C dy gs)) ∨ ∃ z, y = .str z
def rEqO (C : Addr) (sp : Sp) : R2 := fun x y H Q => ∃ a dx fs, x = .ref a ∧ H a = some (.ins C dx fs) ∧ OtherE C H y ∧ sp [x, y] H (fun v H' => (∃ k, v = .bl k) ∧ Q v H') E0
def rNeO (C : Addr) (sp : Sp) : R2 := fun x y H Q => ∃ a dx fs, x = .ref a ∧ H a = some (.ins C dx fs) ∧ OtherE C H y ∧ sp [x, y] H (fun v H' => ∃ k, v = .bl k ∧ Q (.bl (!k)) H') E0
theorem other_looks {X : Cx} {pins : List (Addr × Obj)} {σ : L2.St} {H : Hp} {s : Shared} {C : Addr} {y : V} {u : Value} (T : EqC X.K C) (I : Inv X pins σ H s) (r : RelV y u) (o : OtherE C H y) : ∃ tb, PySem.W.Looks (model X.prog X.w) s.heap (typeOf u) tb ∧ PySem.W.notFirst X.K C tb = true := by
  rcases o with ⟨b, dy, gs, rfl, hy⟩ | ⟨z, rfl⟩
  · cases r
    obtain ⟨mB, J', _⟩ := ins_get I.hok hy
    obtain ⟨od', J', _⟩ := J'.look
    exact ⟨_, J'.type, by simp [PySem.W.notFirst]⟩
  · obtain ⟨t, rfl⟩ := (show ∃ t, u = Value.str z t from r)
    exact ⟨.type "str", fun A Q E s' k q => wpAny_typeOf (T := "str") rfl q, by simp [PySem.W.notFirst, T.sS]⟩
section
variable {X : Cx} {C : Addr} {ps : List Str} {lv : Nat} {sp : Sp}
theorem op_eqO (M : Ch X.prog X.w X.K X.mg X.base C "__eq__" ps [] lv sp) (T : EqC X.K C) (hr : Room lv X.A) : OpR X (compareOp .Eq) (rEqO C sp) := by
  obtain ⟨f, fd, ds, hm, F, hb, hd⟩ := M.ex
  cases hd
  intro pins s σ H x y v u Q I rx ry h
  obtain ⟨a, dx, fs, rfl, ha, hy, q⟩ := h
  cases rx
  obtain ⟨mA, J, _⟩ := ins_get I.hok ha
  obtain ⟨od, J, _⟩ := J.look
  obtain ⟨m, hF⟩ := I.fr
  have run : wpAny (model X.prog X.w) X.A (call (.ref f) [.ref a, u]) (PySem.W.CmpBack (EP X pins σ Q)) X.xe s := by
    have hl := F.len _ _ _ _ q
    have bb := hb s [.ref a, u] I.kIn (by simpa using hl)
    refine wpAny_call (codeAny_mono (F.run X.A X.stack s H ⟨[.ref a, u], []⟩ [.ref a, u] [.ref a, y] _ E0 hr I.env0 (by simpa using bb) (.cons rfl (.cons ry .nil)) q) fun r s' z => ?_)
    rcases r with e | (_ | _ | _ | w)
    · exact pass0 pins σ H s e s' I z
    · exact False.elim z
    · exact False.elim z
    · exact False.elim z
    · obtain ⟨v, H', I', rv, ⟨k, rfl⟩, q'⟩ := I.after z
      obtain rfl : w = Value.bool k := rv
      exact ⟨.bl k, H', I', rfl, q'⟩
  obtain ⟨tb, lk, nf⟩ := other_looks T I ry hy
  show wpAny (model X.prog X.w) X.A (richCompare .Eq (.ref a) u) (EP X pins σ Q) X.xe s
  exact PySem.W.cmp_K (op := .Eq) hr.units0 hF I.ok.mod.kin J lk nf hm.at_ hm.fn run
theorem op_neO (M : Ch X.prog X.w X.K X.mg X.base C "__eq__" ps [] lv sp) (T : EqC X.K C) (hr : Room (lv + 1) X.A) : OpR X (compareOp .NotEq) (rNeO C sp) := by
  obtain ⟨f, fd, ds, hm, F, hb, hd⟩ := M.ex
  cases hd
  intro pins s σ H x y v u Q I rx ry h
  obtain ⟨a, dx, fs, rfl, ha, hy, q⟩ := h
  cases rx
  obtain ⟨mA, J, _⟩ := ins_get I.hok ha
  obtain ⟨od, J, _⟩ := J.look
  have run : wpAny (model X.prog X.w) X.A.in1 (call (.ref f) [.ref a, u]) (fun v s' => ∃ k, v = .bool k ∧ EP X pins σ Q (.bool (!k)) s') X.xe s := by
    have hl := F.len _ _ _ _ q
    have bb := hb s [.ref a, u] I.kIn (by simpa using hl)
    refine wpAny_call (codeAny_mono (F.run X.A.in1 X.stack s H ⟨[.ref a, u], []⟩ [.ref a, u] [.ref a, y] _ E0 hr.in1 (by have e := I.env0; exact ⟨e.frames, e.mod, e.bs, e.bsz, e.funs, e.frf, e.hok, e.bare⟩) (by simpa using bb) (.cons rfl (.cons ry .nil)) q) fun r s' z => ?_)
    rcases r with e | (_ | _ | _ | w)
    · exact pass0 pins σ H s e s' I z
    · exact False.elim z
    · exact False.elim z
    · exact False.elim z
    · obtain ⟨v, H', I', rv, k, rfl, q'⟩ := I.after z
      obtain rfl : w = Value.bool k := rv
      exact ⟨k, rfl, .bl (!k), H', I', rfl, q'⟩
  obtain ⟨tb, lk, nf⟩ := other_looks T I ry hy
  show wpAny (model X.prog X.w) X.A (richCompare .NotEq (.ref a) u) (EP X pins σ Q) X.xe s
  exact ne_K (hu_of hr) I.kIn J lk nf hm.at_ hm.fn T.ne T.mo run
end
end Ow

/-! errors of classes of the program's own, over KeyError, whose __init__ keeps one thing: self.name = name -/
namespace Xk
open PySem PySem.W PySem.Calls PyProof.Rows PySem.HandSPX
abbrev exB : List Value := [.type "KeyError", .type "LookupError", .type "Exception", .type "BaseException", .type "object"]
theorem st_key : StoreFacts "KeyError" exB "object.__setattr__" "object" where
  mro := by kernel_rfl
  slot := .of (T := "KeyError") (owner := "object") (name := "__setattr__") (n := "__setattr__") (by rw [typeLookup_type, builtinLookup_eq_fast]; kernel_rfl)
    (by decide +kernel) (by decide +kernel) (by decide +kernel) (by first | exact .inl (by decide +kernel) | exact .inr (by decide +kernel))
    (by rw [isSubtype_type]; kernel_rfl)
  entry := F.entry_object_sa
  kind := by decide +kernel
  split := by decide +kernel
  hasOwner := by decide +kernel
  args := fun a b c => by unfold argsOk; kernel_rfl
  passes := fun me => by kernel_rfl
/-! a class over KeyError, made: LookupError's __new__, then the own __init__ -/
section
variable {prog : Program} {w : World} {A : Around} {E : Value → Shared → Prop} {R : Result → Shared → Prop} {hp : Heap} {g : Array GenState} {dr : Drawn} {t : Nat} {os : OsState} {nm q : Str} {C N : Addr} {bs : List Value} {hx : Bool} {sn : List Str} {sub : List Value} {ab : Bool} {col : Option Bool} {dd : Option Addr} {k0 k1 k2 k3 k5 : Option Value} {us : List Value} {fI : Addr}
abbrev keyCls (nm q : Str) (C N : Addr) (bs : List Value) (hx : Bool) (sn : List Str) (sub : List Value) (ab : Bool) (col : Option Bool) (dd : Option Addr) (k0 k1 k2 k3 k5 : Option Value) : Obj := excClassObj nm q C N bs exB hx sn sub ab col dd k0 k1 k2 k3 k5 "LookupError.__new__"
theorem has_look (C : Addr) : (Value.ref C :: exB).contains (.type "LookupError") = true := by rw [List.contains_cons]; rfl
theorem has_noAtt (C : Addr) : (Value.ref C :: exB).contains (.type "AttributeError") = false := by rw [List.contains_cons]; rfl
theorem has_noNam (C : Addr) : (Value.ref C :: exB).contains (.type "NameError") = false := by rw [List.contains_cons]; rfl
theorem key_check {Q : Unit → Shared → Prop} (gC : hp.get? C = some (keyCls nm q C N bs hx sn sub ab col dd k0 k1 k2 k3 k5)) (z : Q () ⟨hp, g, dr, t, os⟩) :
    wpAny (model prog w) A (checkBuiltinCall "LookupError.__new__" ⟨.ref C :: us, []⟩) Q E ⟨hp, g, dr, t, os⟩ := by
  have T := F.excBase_LookupError
  have h1 := has_look C
  have h2 := T.noStar
  simp only [checkBuiltinCall, T.newKind, T.newSplit, T.newRow]
  repeat (first | refine wpAny_loadPart_at gC ?_ | (refine wpAny_isSubtype_exc gC ?_; rw [h1]) | refine wpAny_staticBase_exc gC ?_ | refine wpAny_madeBy_exc gC ?_
                | simp only [bne_self_eq_false, Bool.false_eq_true, if_false] | wp_step)
  exact z
theorem key_new (gC : hp.get? C = some (keyCls nm q C N bs hx sn sub ab col dd k0 k1 k2 k3 k5)) (lz : us.length ≤ sizeLine)
    (z : R (.ok (.ret (.ref (hp.objs.size + 1)))) ⟨(hp.push (kdv_tup us)).push (excO C hp.objs.size), g, dr, t, os⟩) :
    codeAny (model prog w) A (.builtin "LookupError.__new__" ⟨.ref C :: us, []⟩) R ⟨hp, g, dr, t, os⟩ := by
  have T := F.excBase_LookupError
  have h0 := T.ends
  have h1 := has_look C
  have h2 := has_noAtt C
  have h3 := has_noNam C
  refine codeAny_builtinAt T.entry ?_
  unfold Builtin.«BaseException.__new__»
  refine PySem.wpAt_bind ?_
  show PySem.wpAt _ _ _ (stack >>= _) _ _ _
  refine PySem.wpAt_bind (PySem.wpAt_stack fun u v => PySem.wpAt_of_wpAny ?_)
  wp_walk
  refine PySem.wpAt_of_wpAny ?_
  rw [T.owner]
  repeat (first | with_reducible refine wpAny_madeHere_exc T.canon gC ?_ | with_reducible refine wpAny_loadPart_at gC ?_
                | (with_reducible refine wpAny_isSubtype_exc gC ?_; first | rw [h1] | rw [h2] | rw [h3]) | wp_step)
  show R _ _
  rw [Heap.size_push]
  exact z
theorem key_type {Q : Fin → Shared → Prop} (gC : hp.get? C = some (keyCls nm q C N bs hx sn sub ab col dd k0 k1 k2 k3 k5))
    (li : Looks (model prog w) hp (typeLookup (.ref C) "__init__") (some (.ref fI))) (lb : ∀ me, Looks (model prog w) hp (bindSpecial (.ref fI) me) (.ref fI, [me])) (lz : us.length ≤ sizeLine)
    (z : codeAny (model prog w) A (.call (.ref fI) ⟨.ref (hp.objs.size + 1) :: us, []⟩)
      (fun r s' => match r with | .ok (.ret v) => v = .none ∧ Q (.done (.ret (.ref (hp.objs.size + 1)))) s' | .ok _ => False | .error er => E er s')
      ⟨(hp.push (kdv_tup us)).push (excO C hp.objs.size), g, dr, t, os⟩) :
    wpAny (model prog w) A (Builtin.«type.__call__» ⟨.ref C :: us, []⟩) Q E ⟨hp, g, dr, t, os⟩ := by
  have T := F.excBase_LookupError
  repeat (first | with_reducible refine wpAny_loadPart_at gC ?_ | with_reducible refine wpAny_madeBy_exc gC ?_ | wp_step)
  refine codeAny_call_builtin_code (Code.quiet_builtin _ T.quiet) (key_check gC ?_)
  refine key_new gC lz ?_
  show wpAny _ _ _ _ _ _
  have kk : ∀ b o, hp.get? b = some o → ((hp.push (kdv_tup us)).push (excO C hp.objs.size)).get? b = some o := fun b o e => Heap.get?_push_of_some _ (Heap.get?_push_of_some _ e)
  have gC1 := kk _ _ gC
  have gx : ((hp.push (kdv_tup us)).push (excO C hp.objs.size)).get? (hp.objs.size + 1) = some (excO C hp.objs.size) := by heap_get
  have own : (Value.ref C :: exB).contains (.ref C) = true := by simp
  have i1 := li.keeps kk
  have b1 := (lb (.ref (hp.objs.size + 1))).keeps kk
  unfold isInstance
  repeat (first | with_reducible refine wpAny_loadPart_at gx ?_ | (with_reducible refine wpAny_isSubtype_exc gC1 ?_; rw [own]) | wp_step)
  show wpAny _ _ (typeLookup (.ref C) _) _ _ _
  refine i1.at ?_
  refine wpAny_holding (wpAny_bind (b1.at ?_))
  refine wpAny_bind (wpAny_call (codeAny_mono z fun r s' y => ?_))
  rcases r with e | (v | _ | _ | _) <;> first | exact y | exact y.elim | skip
  obtain ⟨rfl, y⟩ := y
  first
    | exact wpAny_pure (wpAny_pure y)
    | (wp_walk; exact y)
theorem key_made (gC : hp.get? C = some (keyCls nm q C N bs hx sn sub ab col dd k0 k1 k2 k3 k5))
    (li : Looks (model prog w) hp (typeLookup (.ref C) "__init__") (some (.ref fI))) (lb : ∀ me, Looks (model prog w) hp (bindSpecial (.ref fI) me) (.ref fI, [me])) (lz : us.length ≤ sizeLine)
    (z : codeAny (model prog w) (A.under (.builtin "type.__call__" ⟨.ref C :: us, []⟩)) (.call (.ref fI) ⟨.ref (hp.objs.size + 1) :: us, []⟩) (InitBack (hp.objs.size + 1) R)
      ⟨(hp.push (kdv_tup us)).push (excO C hp.objs.size), g, dr, t, os⟩) :
    codeAny (model prog w) A (.call (.ref C) ⟨us, []⟩) R ⟨hp, g, dr, t, os⟩ := by
  have f1 := tc_lookup
  have f2 := tc_bind (.ref C)
  have isT : (⟨hp, g, dr, t, os⟩ : Shared).TypeIs (.ref C) "type" := ⟨_, gC, rfl⟩
  refine codeAny_of_tree ?_
  show wpAny _ _ (callAny (.ref C) _) _ _ _
  repeat (any_goals (first | assumption | with_reducible refine wpAny_loadPart_at gC ?_ | wp_step))
  refine ⟨rfl, ?_⟩
  refine codeAny_call_builtin_at (Code.quiet_builtin _ (by decide +kernel)) entry_typeCall (wpAny_check_type_call_sub gC (key_type gC li lb lz ?_))
  refine codeAny_mono z fun r s' y => ?_
  rcases r with e | (v | _ | _ | _) <;> exact y
end
def iA (p1 p2 : Pos) : Arguments := { posonlyargs := [], args := [{ arg := "self", annotation := none, pos := p1 }, { arg := "name", annotation := none, pos := p2 }], vararg := none, kwonlyargs := [], kw_defaults := [], kwarg := none, defaults := [] }
def iB (q1 q2 q3 q4 : Pos) : List Stmt := [.Assign [.Attribute (.Name "self" q1) "name" q2] (.Name "name" q3) q4]
def iS : Scope := { kind := .function, names := [(PySem.Str.ofString "self", .local), (PySem.Str.ofString "name", .local)], isGenerator := false, isCoroutine := false, more := [] }
/-- what the written part says of the class cn, at C, and of its __init__, at fI -/
structure ErrC (K : Frag) (mg : Str → Option Value) (cn : Str) (C fI : Addr) : Prop where
  gC : mg cn = some (.ref C)
  cls : ∃ nm q N bs bm sn sub ab col dd k0 k1 k2 k3 k5, K.lookup C = some (excClassObj nm q C N bs bm true sn sub ab col dd k0 k1 k2 k3 k5 "LookupError.__new__") ∧ bm = exB
  sa : findIn K (.ref C) "__setattr__" = some (some (.builtin "object.__setattr__"))
  ga : findIn K (.ref C) "__getattribute__" = some (some (.builtin "BaseException.__getattribute__"))
  gg : findIn K (.ref C) "__getattr__" = some none
  noN : findIn K (.ref C) "name" = some none
  iC : findIn K (.ref C) "__init__" = some (some (.ref fI))
  tC : typeIn K (.ref fI) = some (.type "function")
  kC : keepIn K (.ref C) = true
  exC : subIn K (.ref C) (.type "BaseException") = some true
  tyC : typeIn K (.ref C) = some (.type "type")
  hdC : hasDictIn K C = true
  te : exmOne K (.ref C) (.ref C) = some true
  fn : ∃ (oc : Value) (od : Option Addr) (qn : Str) (doc pm : Value) (an : Option Addr) (cdv ct : Value) (osl : Array (Option Value)) (p1 p2 q1 q2 q3 q4 : Pos),
    K.lookup fI = some ⟨oc, od, .func (fnOf "__init__" qn (iA p1 p2) (iB q1 q2 q3 q4) iS .none .none doc pm an cdv ct), osl⟩ ∧ codeIn K cdv qn = true
theorem one_size (v : Value) : [v].length ≤ sizeLine := by
  rw [sizeLine_eq]
  exact (by decide : 1 ≤ 16777216)
theorem at_local {M : Model} {s : Shared} {name : Str} {scope : Scope} {L a : Addr} {cd : Value} {m : Str → Option Value} {x : Str} {pos : Pos} {v : Value} {Q : Value → Shared → Prop} {A : Around} {E : Value → Shared → Prop} (hn : s.heap.Ns L m) (hv : m x = some v) (h : Q v s)
    (hk : scope.kind = .function := by rfl) (hl : (envOfC name scope L a cd).kindOf x = some .local := by rfl) (hd : (x == ("__debug__" : Str)) = false := by decide) :
    wpAny M A (eval (.Name x pos) (envOfC name scope L a cd)) Q E s := wpAny_Name (wpAny_loadName_local hk hl hn hv h) hd
/-- what __init__ leaves of a fresh exception at x -/
structure Ended (h h' : Heap) (x C dx t1 : Addr) (v : Value) : Prop where
  keep : ∀ b o, b ≠ x → h.get? b = some o → h'.get? b = some o
  obj : h'.get? x = some { cls := .ref C, dict := some dx, data := .fields #[.ref t1, .none, .none, .none, .bool false, .none] }
  dbig : h.objs.size ≤ dx
  dne : dx ≠ x
  ns : h'.Ns1 dx (fun y => if y = "name" then some v else none)
structure Made (h h' : Heap) (e C d : Addr) (v : Value) : Prop where
  keep : ∀ b o, h.get? b = some o → h'.get? b = some o
  new : h.objs.size ≤ e
  obj : ∃ oe vs, h'.get? e = some oe ∧ oe.cls = .ref C ∧ oe.dict = some d ∧ oe.data = .fields vs ∧ vs[1]? = some .none
  dbig : h.objs.size ≤ d
  dne : d ≠ e
  ns : h'.Ns1 d (fun y => if y = "name" then some v else none)
section
open Builtin Builtin.ObjectAttr
variable {prog : Program} {w : World} {A : Around} {E : Value → Shared → Prop} {R : Result → Shared → Prop} {K : Frag} {mg : Str → Option Value} {cn : Str} {C fI : Addr}
/-- the first store to such an exception: it gets its dict -/
theorem first_store {hp : Heap} {g : Array GenState} {d : Drawn} {t : Nat} {os : OsState} {name : Str} {tk : Tok} {v : Value} {x : Addr} {fv : Array Value} {cd : ClassData}
    (X : K.In hp) (hx : hp.get? x = some { cls := .ref C, data := .fields fv }) (hcd : clsIn K C = some cd) (ho : excOver K C exB = true) (hh : cd.hasDict = true) (ha : findIn K (.ref C) name = some none)
    (hq : ∀ h' tk' dx, (∀ b o, b ≠ x → hp.get? b = some o → h'.get? b = some o) → hp.objs.size ≤ dx → dx ≠ x → h'.get? x = some { cls := .ref C, dict := some dx, data := .fields fv } →
      h'.Ns1 dx (fun y => if y = name then some v else none) → R (.ok (.ret .none)) ⟨h', g, d, tk', os⟩) :
    codeAny (model prog w) A (.call (.builtin "object.__setattr__") ⟨[.ref x, .str name tk, v], []⟩) R ⟨hp, g, d, t, os⟩ := by
  have I : InstAt hp x { cls := .ref C, data := .fields fv } C none := ⟨hx, rfl, rfl, trivial⟩
  have nx : x ≠ hp.objs.size := Nat.ne_of_lt (Heap.lt_size hx)
  refine osa_openX (r := none) st_key X I ho (by unfold takerIn; rw [ha]; rfl) fun b => ?_
  show wpAny _ _ (storeInOwnDict (.ref x) (.ref C) (.str name tk) name v b) _ _ _
  have hC : Looks (model prog w) hp (classData C) cd := looks_clsIn X hcd
  obtain ⟨_, _, _, _, _, hd, _, _, _, _, _⟩ := cd
  dsimp only at hh
  subst hh
  unfold storeInOwnDict ownDictForStores
  repeat (first | with_reducible refine wpAny_loadPart_at hx ?_ | with_reducible refine hC.at ?_ | with_reducible refine HandSPX.store_in_new ?_ ?_ | wp_step)
  · exact ⟨_, #[], _, (Heap.get?_update_ne _ _ _ _ nx.symm).trans (Heap.get?_push_at rfl rfl), rfl, fun e he => absurd he (by simp), fun _ => rfl⟩
  · intro h' tk' hn' hs
    have old : (hp.push { cls := .type "dict", data := .dict #[] }).get? x = some { cls := .ref C, data := .fields fv } := Heap.get?_push_of_some _ hx
    refine hq h' tk' hp.objs.size (fun b o hb ho => ?_) (Nat.le_refl _) nx.symm ?_ hn'
    · exact (hs.2 b (Nat.ne_of_lt (Heap.lt_size ho))).trans ((Heap.get?_update_ne _ _ _ _ hb).trans (Heap.get?_push_of_some _ ho))
    · exact (hs.2 x nx).trans (Heap.get?_update_self _ old rfl)
theorem err_init (T : ErrC K mg cn C fI) {s : Shared} {x t0 : Addr} {v : Value} (X : K.In s.heap) (hlim : s.heap.NoLimit) (hx : s.heap.get? x = some (excO C t0)) (hroom : A.depth < recursionLimit)
    (hq : ∀ h' tk dx, Ended s.heap h' x C dx t0 v → R (.ok (.ret .none)) { s with heap := h', toks := tk }) :
    codeAny (model prog w) A (.call (.ref fI) ⟨[.ref x, v], []⟩) R s := by
  obtain ⟨oc, od, qn, doc, pm, an, cdv, ct, osl, p1, p2, q1, q2, q3, q4, ho, hcd⟩ := T.fn
  obtain ⟨nm, q, N, bs, bm, sn, sub, ab, col, dd, k0, k1, k2, k3, k5, hC, hbE⟩ := T.cls
  subst hbE
  have hcl : clsIn K C = some { name := nm, bases := bs, mro := .ref C :: exB, ns := N, qualname := q, hasDict := true, slotNames := sn, subclasses := sub, abstract := ab, collection := col, hasDel := false } := by unfold clsIn; rw [hC] <;> rfl
  have over : excOver K C exB = true := by
    unfold excOver
    rw [hcl]
    show ((C == C) && excTail exB exB) = true
    rw [beq_self_eq_true]
    rfl
  refine Att.call_fn (binds := [("self", .ref x), ("name", v)]) X hlim ho hcd hroom (BindsTo.of_eq (by first | rfl | with_unfolding_all rfl)) (by first | rfl | decide | with_unfolding_all rfl) (fun s₁ IC => ?_) rfl rfl rfl
  obtain ⟨h₁, tk₁, rfl⟩ := IC.toInCall.same
  have k : ∀ b o, s.heap.get? b = some o → h₁.get? b = some o := IC.toInCall.keep
  have hn := IC.toInCall.ns
  have X₁ : K.In h₁ := X.keeps k
  have hx₁ := k _ _ hx
  show wpAny _ _ (execs _ _) _ _ _
  refine wpAny_execs_cons (plainObj_wpAny_Assign_Attribute ?_)
  refine at_local (v := v) hn (by first | rfl | with_unfolding_all rfl | kernel_rfl) (at_local (v := .ref x) hn (by first | rfl | with_unfolding_all rfl | kernel_rfl) ?_)
  refine set_plain X₁ (ox := excO C t0) (od := none) ⟨hx₁, rfl, rfl, trivial⟩ T.sa ?_
  refine first_store X₁ hx₁ hcl over rfl T.noN (fun h₃ tk₃ dx k₃ dn dne hx₃ hn₃ => ?_)
  show wpAny _ _ (execs _ _) _ _ _
  have z : s.heap.objs.size < h₁.objs.size := hn.lt
  exact wpAny_execs_nil (hq h₃ tk₃ dx ⟨fun b o hb e => k₃ b o hb (k b o e), hx₃, Nat.le_of_lt (Nat.lt_of_lt_of_le z dn), dne, hn₃⟩)
theorem err_made (T : ErrC K mg cn C fI) {s : Shared} {v : Value} (X : K.In s.heap) (hlim : s.heap.NoLimit) (hroom : A.depth + 1 < recursionLimit)
    (hq : ∀ h' tk e d, Made s.heap h' e C d v → R (.ok (.ret (.ref e))) { s with heap := h', toks := tk }) :
    codeAny (model prog w) A (.call (.ref C) ⟨[v], []⟩) R s := by
  obtain ⟨nm, q, N, bs, bm, sn, sub, ab, col, dd, k0, k1, k2, k3, k5, hC, hbE⟩ := T.cls
  subst hbE
  obtain ⟨hp, g, dr, tk, os⟩ := s
  have k : ∀ b o, hp.get? b = some o → ((hp.push (kdv_tup [v])).push (excO C hp.objs.size)).get? b = some o := fun b o e => Heap.get?_push_of_some _ (Heap.get?_push_of_some _ e)
  have hget : ((hp.push (kdv_tup [v])).push (excO C hp.objs.size)).get? (hp.objs.size + 1) = some (excO C hp.objs.size) := by heap_get
  refine key_made (X _ _ hC) (looks_findIn X T.iC) (fun self => bind_fn X self T.tC) (one_size v) ?_
  refine err_init (s := ⟨(hp.push (kdv_tup [v])).push (excO C hp.objs.size), g, dr, tk, os⟩) T (X.keeps k) (hlim.keeps k) hget ?_ fun h' tk' dx ⟨k', hx, dn, dne, hns⟩ => ?_
  · show A.depth + 1 < recursionLimit
    exact hroom
  · have old : ∀ b o, hp.get? b = some o → h'.get? b = some o := fun b o e => k' b o (Nat.ne_of_lt (Nat.lt_succ_of_lt (Heap.lt_size e))) (k b o e)
    have z : hp.objs.size + 1 + 1 ≤ dx := by
      first
        | (simpa only [Heap.size_push] using dn)
        | exact dn
        | (have q := dn; rw [Heap.size_push, Heap.size_push] at q; exact q)
    exact ⟨rfl, hq h' tk' (hp.objs.size + 1) dx ⟨old, Nat.le_succ _, ⟨_, _, hx, rfl, rfl, rfl, rfl⟩, Nat.le_trans (Nat.le_trans (Nat.le_succ _) (Nat.le_succ _)) z, dne, hns⟩⟩
end
end Xk
namespace Xk
open PySem PySem.Spec PyProof.Rows L2
theorem relO_at {v : V} {v' : Value} (r : RelV v v') (f : Str) : RelO (List.lookup f [(("name" : Str), v)]) (if f = "name" then some v' else none) := by
  by_cases hw : f = "name"
  · subst hw
    rw [if_pos rfl]
    have q : List.lookup ("name" : Str) [(("name" : Str), v)] = some v := by simp [List.lookup]
    rw [q]
    exact r
  · rw [if_neg hw]
    have qw : (f == ("name" : Str)) = false := by simpa using hw
    have q2 : List.lookup f [(("name" : Str), v)] = none := by simp [List.lookup, qw]
    rw [q2]
    trivial
section
variable {X : Cx} {cn : Str} {C fI : Addr}
/-- cn(e) -/
def tMk (C : Addr) (ta : TA) : L2.St → Hp → XK → Prop := fun σ H Q => ta σ H fun vs H1 => ∃ v, vs = [v] ∧ ∀ d, H1 d = none → Q (.ref C) (some d) (upd H1 d (.xd [(("name" : Str), v)]))
theorem pmk_at {a : Expr} {ta : TA} {p pos : Pos} {k : Nat} (T : ErrC X.K X.mg cn C fI) (hr : Room k X.A) (ha : PA X [a] ta) (hg : Gl X cn) (hdb : (cn == ("__debug__" : Str)) = false := by decide)
    (he : starEach (a :: []) X.env = (false, eval a X.env) :: starEach [] X.env := by rfl) (hpl : (backTo pos (starEach [] X.env)).any (·.1) = false := by rfl) :
    PMk X (.Call (.Name cn p) [a] [] pos) (tMk C ta) := by
  intro pins s σ H Q I h
  refine wpAny_Call_Name_kw (ld_glob I hg T.gC ?_ hdb)
  refine PySem.W.callWith_K (h₀ := X.base) I.ok.mod.kin T.kC (thn (ha.run pos pins s σ H _ I h) fun us s1 hh => ?_) he hpl
  obtain ⟨vs, H1, I1, r1, v, ev, q1⟩ := hh
  subst ev
  refine ⟨I1.kIn, ?_⟩
  cases r1 with
  | cons rv rn =>
    rename_i v' us'
    cases rn
    show wpAny _ _ (call (.ref C) [v']) _ _ _
    have hlim := I1.nolimit
    obtain ⟨hp, g, dr, tk, os⟩ := s1
    refine wpAny_call (err_made T I1.kIn hlim (by have := hr.dp; omega) fun h' tk' e d M => ?_)
    show MkP X pins σ Q (.ref e) ⟨h', g, dr, tk', os⟩
    obtain ⟨oe, fv, hoe, hc, hd, hdat, h1⟩ := M.obj
    have hns := M.ns
    obtain ⟨G', g1, g2⟩ := restrict h' fun b => decide (b ≠ e)
    have gk : ∀ b, b ≠ e → G'.get? b = h'.get? b := fun b hb => g1 b (decide_eq_true hb)
    have ge : G'.get? e = none := g2 e (by simp)
    have old : ∀ b o, hp.get? b = some o → G'.get? b = some o := fun b o q => (gk b (Nat.ne_of_lt (Nat.lt_of_lt_of_le (Heap.lt_size q) M.new))).trans (M.keep b o q)
    have ob : ObjOk X.prog X.w (upd H1 d (.xd [(("name" : Str), v)])) G' d (.xd [(("name" : Str), v)]) :=
      ⟨_, hns.at (fun o q => (gk d M.dne).trans q), fun f => relO_at rv f⟩
    have J : Inv X pins σ (upd H1 d (.xd [(("name" : Str), v)])) ⟨G', g, dr, tk', os⟩ := I1.laid (t' := tk') old M.dbig ob
    refine ⟨e, oe, fv, ⟨G', g, dr, tk', os⟩, _, .ref C, some d, rfl, J, fun b o q => ?_, ge, hoe, ⟨hc, hd⟩, hdat, h1, ?_, rfl, I1.bare, raises_own T.exC T.tyC, q1 d (I1.hok.fresh M.dbig)⟩
    · by_cases hb : b = e
      · have q' : G'.get? b = some o := q
        rw [hb, ge] at q'; cases q'
      · exact (gk b hb).symm.trans q
    · rw [upd_ne (Ne.symm M.dne)]
      exact I1.hok.fresh M.new
/-- raise cn(e) -/
def tRaise (C : Addr) (W : WX) (ta : TA) : TS := fun _ σ H => tMk C ta σ H fun cls d H' => W cls d σ H'
theorem ps_raiseAt {a : Expr} {ta : TA} {W : WX} {p pos pos2 : Pos} {k : Nat} (hc : X.calm = true) (T : ErrC X.K X.mg cn C fI) (hr : Room k X.A) (tk : Takes X W) (ha : PA X [a] ta) (hg : Gl X cn) (hdb : (cn == ("__debug__" : Str)) = false := by decide)
    (he : starEach (a :: []) X.env = (false, eval a X.env) :: starEach [] X.env := by rfl) (hpl : (backTo pos (starEach [] X.env)).any (·.1) = false := by rfl) :
    PS X (.Raise (some (.Call (.Name cn p) [a] [] pos)) none pos2) (tRaise C W ta) := ps_raise hc tk (pmk_at T hr ha hg hdb he hpl)
theorem ErrC.xf (T : ErrC X.K X.mg cn C fI) : XfC X.K C := ⟨T.ga, T.gg, T.exC, T.hdC⟩
end
end Xk

namespace R0
open PySem PySem.Spec PyProof.Rows L2 Hb St Sq Ow En Zp RZ Rd Xb Da
/-! ### rooms, typed -/
abbrev Lot := List Str
abbrev Tale := List Lot
abbrev Rm := Str × Tale
abbrev Stp := Str × Int
abbrev Jn := Stp × Stp
structure RD where
  rooms : List Rm
  gongs : List Jn
  calls : List Jn
deriving DecidableEq
def lD (l : Lot) : PyData := .tuple (l.map .str)
def tD (t : Tale) : PyData := .tuple (t.map lD)
def rmD (r : Rm) : PyData := .tuple [.str r.1, tD r.2]
def stD (s : Stp) : PyData := .tuple [.str s.1, .int s.2]
def jnD (j : Jn) : PyData := .tuple [stD j.1, stD j.2]
theorem eqv_lD (a b : Lot) : PyData.eqv (lD a) (lD b) = decide (a = b) := eqvAll_map eqv_str a b
theorem eqv_tD (a b : Tale) : PyData.eqv (tD a) (tD b) = decide (a = b) := eqvAll_map eqv_lD a b
theorem eqv_two {a b c d : PyData} {A B : Prop} [Decidable A] [Decidable B] (h1 : PyData.eqv a c = decide A) (h2 : PyData.eqv b d = decide B) : PyData.eqv (.tuple [a, b]) (.tuple [c, d]) = (decide A && decide B) := by
  show (PyData.eqv a c && (PyData.eqv b d && true)) = _
  rw [h1, h2, Bool.and_true]
theorem eqv_rm (a b : Rm) : PyData.eqv (rmD a) (rmD b) = decide (a = b) := by
  refine (eqv_two (eqv_str a.1 b.1) (eqv_tD a.2 b.2)).trans ?_
  rw [← Bool.decide_and]
  exact decide_eq_decide.mpr (by rw [Prod.ext_iff])
theorem eqv_st (a b : Stp) : PyData.eqv (stD a) (stD b) = decide (a = b) := by
  refine (eqv_two (eqv_str a.1 b.1) (eqv_int a.2 b.2)).trans ?_
  rw [← Bool.decide_and]
  exact decide_eq_decide.mpr (by rw [Prod.ext_iff])
theorem eqv_jn (a b : Jn) : PyData.eqv (jnD a) (jnD b) = decide (a = b) := by
  refine (eqv_two (eqv_st a.1 b.1) (eqv_st a.2 b.2)).trans ?_
  rw [← Bool.decide_and]
  exact decide_eq_decide.mpr (Prod.ext_iff (x := a) (y := b)).symm
theorem eqv_rms (a b : List Rm) : PyData.eqv (.tuple (a.map rmD)) (.tuple (b.map rmD)) = decide (a = b) := eqvAll_map eqv_rm a b
theorem eqv_jns (a b : List Jn) : PyData.eqv (.tuple (a.map jnD)) (.tuple (b.map jnD)) = decide (a = b) := eqvAll_map eqv_jn a b
theorem sh_two {n : Nat} {a b : PyData} (h1 : Sh n a) (h2 : Sh n b) : Sh (n + 1) (.tuple [a, b]) := sh_tup (f := id) (l := [a, b]) fun c hc => by
  simp only [List.mem_cons, List.not_mem_nil, or_false] at hc
  rcases hc with rfl | rfl
  · exact h1
  · exact h2
def NmT (t : Tale) : Prop := ∀ l ∈ t, ∀ x ∈ l, IsNm x
def NmR (r : Rm) : Prop := IsNm r.1 ∧ NmT r.2
def NmJ (j : Jn) : Prop := IsNm j.1.1 ∧ IsNm j.2.1
structure RNm (R : RD) : Prop where
  r : ∀ r ∈ R.rooms, NmR r
  g : ∀ j ∈ R.gongs, NmJ j
  c : ∀ j ∈ R.calls, NmJ j
theorem sh_lD {l : Lot} (h : ∀ x ∈ l, IsNm x) : Sh 1 (lD l) := sh_tup fun x hx => sh_str (h x hx)
theorem sh_tD {t : Tale} (h : NmT t) : Sh 2 (tD t) := sh_tup fun x hx => sh_lD (h x hx)
theorem sh_rm {r : Rm} (h : NmR r) : Sh 3 (rmD r) := sh_two (sh_str h.1) (sh_tD h.2)
theorem sh_st {s : Stp} (h : IsNm s.1) : Sh 1 (stD s) := sh_two (sh_str h) (sh_int 0 _)
theorem sh_jn {j : Jn} (h : NmJ j) : Sh 2 (jnD j) := sh_two (sh_st h.1) (sh_st h.2)
theorem sh_rms {l : List Rm} (h : ∀ r ∈ l, NmR r) : Sh 4 (.tuple (l.map rmD)) := sh_tup fun x hx => sh_rm (h x hx)
theorem sh_jns {l : List Jn} (h : ∀ j ∈ l, NmJ j) : Sh 3 (.tuple (l.map jnD)) := sh_tup fun x hx => sh_jn (h x hx)
/-- the rooms R stand at m -/
def RoomsAt (K : PySem.W.Frag) (C : Addr) (H : Hp) (m : Addr) (R : RD) : Prop := RmAt K C H m (R.rooms.map rmD) (R.gongs.map jnD) (R.calls.map jnD)
/-! ### what is made of Rooms(..) -/
theorem rd_make {K : PySem.W.Frag} {C CR : Addr} {vr vg vc : V} {dr dg dc : PyData} {H : Hp} {Q : VK} {E : XK} (dvr : Dp K H vr dr) (dvg : Dp K H vg dg) (dvc : Dp K H vc dc) (smr : SmR dr) (smg : SmJs dg) (smc : SmJs dc)
    (q : rmErr dr dg dc = none → ∀ m H', Same H H' → H m = none → RmAt K C H' m (itemsD dr) (itemsD dg) (itemsD dc) → Q (.ref m) H') (qe : ∀ k : Nat, rmErr dr dg dc = some k → ∀ dd H', Same H H' → H' dd = some (errH k) → E (.ref CR) (some dd) H') :
    ∀ x dx, H x = none → H dx = none → dx ≠ x → spInit K C CR (.ref x :: ([vr, vg, vc] ++ [])) (upd (upd H dx (.own x)) x (.ins C dx [])) (fun v H2 => v = .non ∧ Q (.ref x) H2) E := fun x dx hx hd ne => by
  have s1 : Same H (upd (upd H dx (.own x)) x (.ins C dx [])) := (same_new hd (.own x)).trans (same_new (by rw [upd_ne ne.symm]; exact hx) _)
  refine ⟨x, dx, vr, vg, vc, dr, dg, dc, rfl, upd_same, dp_same s1 dvr, dp_same s1 dvg, dp_same s1 dvc, smr, smg, smc, fun no H' k r => ⟨rfl, q no x H' (fun b o e => ?_) hx r⟩, fun k ek dd H' s e => qe k ek dd H' (s1.trans s) e⟩
  exact k b o (s1 b o e) (ne_of_none e hx)
/-- the class, as it is made -/
structure MkR (P : Program) (w : World) (K : PySem.W.Frag) (mg : Str → Option Value) (base : Heap) (C CR eg ec : Addr) : Prop where
  ex : ∃ (f : Addr) (fd : FuncData) (g : List Value → List Value → List Value), Mk K C f ∧ FnOk P w K mg base (L2.CX P w) 5 f fd ["self", "rooms", "gongs", "calls"] (spInit K C CR) ∧ Binds K fd ["self", "rooms", "gongs", "calls"] [] ∧ Binds K fd ["self", "rooms", "gongs", "calls"] [.ref ec] ∧ Binds K fd ["self", "rooms", "gongs", "calls"] [.ref eg, .ref ec] ∧ KBn K fd ["self", "rooms", "gongs", "calls"] 1 ["rooms", "gongs", "calls"] g (fun vs zs => vs ++ zs)
  mgC : mg "Rooms" = some (.ref C)
  eG : ∀ H, SqT K H eg []
  eC : ∀ H, SqT K H ec []
section
variable {X : Cx} {C CR eg ec : Addr} {e : Expr} {es : List Expr} {p pos : Pos} {t : TA} {E : XK}
theorem pe_mk3 (M : MkR X.prog X.w X.K X.mg X.base C CR eg ec) (hr : Room 6 X.A) (hx : Passes (L2.CX X.prog X.w) X E) (hg : Gl X "Rooms") (ha : PA X (e :: es) t)
    (he : starEach (e :: es) X.env = (false, eval e X.env) :: starEach es X.env := by rfl) (hpl : (backTo pos (starEach es X.env)).any (·.1) = false := by rfl) : PE X (.Call (.Name "Rooms" p) (e :: es) [] pos) (tMake C (spInit X.K C CR) [] E t) := by
  obtain ⟨f, fd, g, mk, F, b3, b2, b1, kb⟩ := M.ex
  exact pe_make mk F hr hg M.mgC b3 .nil hx ha (by decide) he hpl
theorem pe_mk2 (M : MkR X.prog X.w X.K X.mg X.base C CR eg ec) (hr : Room 6 X.A) (hx : Passes (L2.CX X.prog X.w) X E) (hg : Gl X "Rooms") (ha : PA X (e :: es) t)
    (he : starEach (e :: es) X.env = (false, eval e X.env) :: starEach es X.env := by rfl) (hpl : (backTo pos (starEach es X.env)).any (·.1) = false := by rfl) : PE X (.Call (.Name "Rooms" p) (e :: es) [] pos) (tMake C (spInit X.K C CR) [.ref ec] E t) := by
  obtain ⟨f, fd, g, mk, F, b3, b2, b1, kb⟩ := M.ex
  exact pe_make mk F hr hg M.mgC b2 (.cons rfl .nil) hx ha (by decide) he hpl
theorem pe_mk1 (M : MkR X.prog X.w X.K X.mg X.base C CR eg ec) (hr : Room 6 X.A) (hx : Passes (L2.CX X.prog X.w) X E) (hg : Gl X "Rooms") (ha : PA X (e :: es) t)
    (he : starEach (e :: es) X.env = (false, eval e X.env) :: starEach es X.env := by rfl) (hpl : (backTo pos (starEach es X.env)).any (·.1) = false := by rfl) : PE X (.Call (.Name "Rooms" p) (e :: es) [] pos) (tMake C (spInit X.K C CR) [.ref eg, .ref ec] E t) := by
  obtain ⟨f, fd, g, mk, F, b3, b2, b1, kb⟩ := M.ex
  exact pe_make mk F hr hg M.mgC b1 (.cons rfl (.cons rfl .nil)) hx ha (by decide) he hpl
theorem pe_mkK {kws : List Keyword} {tk : TA} (M : MkR X.prog X.w X.K X.mg X.base C CR eg ec) (hr : Room 6 X.A) (hx : Passes (L2.CX X.prog X.w) X E) (hg : Gl X "Rooms") (hkw : PK X kws tk)
    (hall : (backToKw pos (keywordEach kws X.env)).all (·.1.isSome) = true := by rfl) (hks : (backToKw pos (keywordEach kws X.env)).filterMap (·.1) = ([("rooms" : Str), "gongs", "calls"] : List Str) := by rfl)
    (hpl : ((backTo pos (starEach [] X.env)).any (·.1) || (backToKw pos (keywordEach kws X.env)).any (·.1.isNone)) = false := by rfl) : PE X (.Call (.Name "Rooms" p) [] kws pos) (tMakeK C 0 3 (spInit X.K C CR) (fun vs zs => vs ++ zs) E tNil tk) := by
  obtain ⟨f, fd, g, mk, F, b3, b2, b1, kb⟩ := M.ex
  exact pe_makeK0 mk F hr hg M.mgC kb hx hkw hall hks (by decide) hpl
end
section
variable {P : Program} {w : World} {K : PySem.W.Frag} {mg : Str → Option Value} {base : Heap}
/-! ### Rooms.__eq__ -/
abbrev s_Rooms___eq__ : Stmt := inClass (top 22) 1
theorem sc_Rooms___eq__ : FnScope ["self", "other"] ["self", "other"] (defScope s_Rooms___eq__) := ⟨rfl, rfl, rfl, by decide +kernel, rfl, by decide +kernel, by decide +kernel⟩
def spEqR (K : PySem.W.Frag) (C : Addr) : Sp := fun vs H Q _ => ∃ (m : Addr) (y : V) (R : RD), vs = [.ref m, y] ∧ RoomsAt K C H m R ∧ RNm R ∧ ((∃ m2 U, y = .ref m2 ∧ RoomsAt K C H m2 U ∧ RNm U ∧ Q (.bl (decide (R = U))) H) ∨ ∃ z, y = .str z ∧ Q (.bl false) H)
theorem ok_eqR {f C_Rooms : Addr} {fd : FuncData} (F : Fun K "__eq__" "Rooms.__eq__" s_Rooms___eq__ f fd) (TC : RmT K C_Rooms) (g_Rooms : mg "Rooms" = some (.ref C_Rooms)) (n_isinstance : mg "isinstance" = none) : FnOk P w K mg base CX0 2 f fd ["self", "other"] (spEqR K C_Rooms) := by
  refine F.ok sc_Rooms___eq__ (fun vs H Q E h => ?_) (fun cdv A outer s H vs Q E hr h => ?_)
  · obtain ⟨_, _, _, rfl, _⟩ := h
    rfl
  · obtain ⟨m, y, R, rfl, ⟨dx, a, b, c, hm, d1, d2, d3⟩, nR, hy⟩ := h
    refine ⟨_, (Evl.pss_cut (ps_if (pt_not (pt_val (pe_callB call_isi (by rfl) n_isinstance (by decide +kernel) (pa_cons (pv 1) (pa_cons (pe_glob (v := .ref C_Rooms) (by rfl) g_Rooms rfl) pa_nil))))) (pss_one (ps_ret pe_bl)) pss_nil)
    (pss_one (ps_ret (pe_and (pe_cmpR (op_eqD hr.units) (pe_fld (pv 0) rfl) (pe_fld (pv 1) rfl) (nomark _)) (pe_and (pe_cmpR (op_eqD hr.units) (pe_fld (pv 0) rfl) (pe_fld (pv 1) rfl) (nomark _)) (pe_one (pe_cmpR (op_eqD hr.units) (pe_fld (pv 0) rfl) (pe_fld (pv 1) rfl) (nomark _)))))))), ?_⟩
    rcases hy with ⟨m2, U, rfl, ⟨dy, a', b', c', hm', e1, e2, e3⟩, nU, q⟩ | ⟨z, rfl, q⟩
    · refine ⟨fun σ H' => σ = [some (.ref m), some (.ref m2)] ∧ H' = H, ?_, ?_⟩
      · exact ⟨_, rfl, _, _, _, _, true, rfl, .own C_Rooms, .base (.ins hm' TC.cl TC.x1 TC.x2 TC.x3 TC.x4), TC.kC, true, rfl, iteF ⟨rfl, rfl⟩⟩
      rintro σ H' ⟨rfl, rfl⟩
      refine ⟨_, rfl, m, C_Rooms, dx, _, _, rfl, hm, TC.cl, TC.nR, rfl, _, rfl, m2, C_Rooms, dy, _, _, rfl, hm', TC.cl, TC.nR, rfl, _, _, d1, e1, (sh_rms nR.r).ok (by decide), (sh_rms nU.r).ok (by decide), _, rfl, ?_⟩
      rw [eqv_rms]
      by_cases c0 : R.rooms = U.rooms
      · rw [decide_eq_true c0]
        refine iteT ⟨_, rfl, m, C_Rooms, dx, _, _, rfl, hm, TC.cl, TC.nG, rfl, _, rfl, m2, C_Rooms, dy, _, _, rfl, hm', TC.cl, TC.nG, rfl, _, _, d2, e2, (sh_jns nR.g).ok (by decide), (sh_jns nU.g).ok (by decide), _, rfl, ?_⟩
        rw [eqv_jns]
        by_cases c1 : R.gongs = U.gongs
        · rw [decide_eq_true c1]
          refine iteT ⟨_, rfl, m, C_Rooms, dx, _, _, rfl, hm, TC.cl, TC.nC, rfl, _, rfl, m2, C_Rooms, dy, _, _, rfl, hm', TC.cl, TC.nC, rfl, _, _, d3, e3, (sh_jns nR.c).ok (by decide), (sh_jns nU.c).ok (by decide), ?_⟩
          rw [eqv_jns]
          have e2 : decide (R = U) = decide (R.calls = U.calls) := decide_eq_decide.mpr ⟨fun h => by rw [h], fun h => by cases R; cases U; simp_all⟩
          rw [e2] at q
          exact q
        · rw [decide_eq_false c1]
          rw [decide_eq_false fun h => c1 (by rw [h])] at q
          exact iteF q
      · rw [decide_eq_false c0]
        rw [decide_eq_false fun h => c0 (by rw [h])] at q
        exact iteF q
    · exact ⟨fun _ _ => False, ⟨_, rfl, _, _, _, _, false, rfl, .own C_Rooms, .base (.str z), TC.kS, false, rfl, iteT q⟩, fun _ _ h => h.elim⟩
end
end R0

namespace R0
open PySem PySem.Spec PyProof.Rows L2 Hb St Sq Ow En Zp RZ Rd Xb Da
/-! ### typed data on the heap -/
section
variable {K : PySem.W.Frag} {H : Hp}
theorem all2_map {α : Type} {R : V → PyData → Prop} {f : α → PyData} : ∀ {xs : List V} {l : List α}, All2 R xs (l.map f) → All2 (fun v a => R v (f a)) xs l
  | _, [], .nil => .nil
  | _, _ :: _, .cons h t => .cons h (all2_map t)
theorem dp_seq {α : Type} {f : α → PyData} {v : V} {l : List α} (h : Dp K H v (.tuple (l.map f))) : ∃ b xs, v = .ref b ∧ SqT K H b xs ∧ All2 (fun v a => Dp K H v (f a)) xs l := by
  cases h with
  | tup h a => exact ⟨_, _, rfl, h, all2_map (dpa_all a)⟩
theorem dp_lsq {α : Type} {f : α → PyData} {v : V} {l : List α} (h : Dp K H v (.list (l.map f))) : ∃ b xs, v = .ref b ∧ SqL K H b xs ∧ All2 (fun v a => Dp K H v (f a)) xs l := by
  cases h with
  | lst h a => exact ⟨_, _, rfl, h, all2_map (dpa_all a)⟩
theorem dp_lot {v : V} {l : Lot} (h : Dp K H v (lD l)) : ∃ b, v = .ref b ∧ SqT K H b (l.map V.str) := by
  obtain ⟨b, xs, rfl, hb, al⟩ := dp_seq h
  refine ⟨b, rfl, ?_⟩
  rw [← al.map_eq (f := V.str) fun v a r => by cases r; rfl]
  exact hb
theorem dp_two {v : V} {d e : PyData} (h : Dp K H v (.tuple [d, e])) : ∃ b v1 v2, v = .ref b ∧ SqT K H b [v1, v2] ∧ Dp K H v1 d ∧ Dp K H v2 e := by
  cases h with
  | tup h a =>
    cases dpa_all a with
    | cons h1 r1 =>
      cases r1 with
      | cons h2 r2 =>
        cases r2
        exact ⟨_, _, _, rfl, h, h1, h2⟩
theorem dp_rm {v : V} {r : Rm} (h : Dp K H v (rmD r)) : ∃ b vt, v = .ref b ∧ SqT K H b [.str r.1, vt] ∧ Dp K H vt (tD r.2) := by
  obtain ⟨b, v1, v2, rfl, hb, h1, h2⟩ := dp_two h
  cases h1
  exact ⟨b, v2, rfl, hb, h2⟩
theorem dp_st {v : V} {s : Stp} (h : Dp K H v (stD s)) : ∃ b, v = .ref b ∧ SqT K H b [.str s.1, .int s.2] := by
  obtain ⟨b, v1, v2, rfl, hb, h1, h2⟩ := dp_two h
  cases h1
  cases h2
  exact ⟨b, rfl, hb⟩
theorem dp_jn {v : V} {j : Jn} (h : Dp K H v (jnD j)) : ∃ b v1 v2, v = .ref b ∧ SqT K H b [v1, v2] ∧ Dp K H v1 (stD j.1) ∧ Dp K H v2 (stD j.2) := dp_two h
theorem dp_tup2 {b : Addr} {v1 v2 : V} {d e : PyData} (h : SqT K H b [v1, v2]) (h1 : Dp K H v1 d) (h2 : Dp K H v2 e) : Dp K H (.ref b) (.tuple [d, e]) := .tup h (.cons h1 (.cons h2 .nil))
end
/-! ### the mathematics of the methods -/
/-- the number of the lot with the i-th ring of x -/
def evL (x : Str) : Tale → Int → Nat → Option Nat
  | [], _, _ => none
  | l :: r, i, j => if x ∈ l then (if i - 1 = 0 then some j else evL x r (i - 1) (j + 1)) else evL x r i (j + 1)
def optN : Option Nat → V
  | some k => .int (k : Nat)
  | none => .non
/-- the lot of a step -/
def lotOfR : List Rm → PyData → Option Lot
  | [], _ => none
  | r :: rs, d => if stB [(r.1, (r.2.length : Int))] d = true then (match d with
    | .tuple [_, .int i] => r.2[(i - 1).toNat]?
    | _ => none) else lotOfR rs d
def turnN (bell : Str) (t : Tale) : PyData → Option Nat
  | .int i => if 1 ≤ i then evL bell t i 0 else none
  | _ => none
/-- the step of a ring -/
def stepOfR (name bell : Str) (d : PyData) : List Rm → Option Nat
  | [] => none
  | r :: rs => match (if r.1 = name then turnN bell r.2 d else none) with
    | some n => some n
    | none => stepOfR name bell d rs
def errN (v : V) : HO := .xd [(("name" : Str), v)]
section
variable {P : Program} {w : World} {K : PySem.W.Frag} {mg : Str → Option Value} {base : Heap}
/-! ### event_lot -/
abbrev s_event_lot : Stmt := top 15
theorem sc_event_lot : FnScope ["tale", "name", "i", "number", "lot"] ["tale", "name", "i"] (defScope s_event_lot) := ⟨rfl, rfl, rfl, by decide +kernel, rfl, by decide +kernel, by decide +kernel⟩
def spEvL (K : PySem.W.Frag) : Sp := fun vs H Q _ => ∃ (v : V) (x : Str) (i : Int) (t : Tale), vs = [v, .str x, .int i] ∧ Dp K H v (tD t) ∧ ∀ H', Same H H' → Q (optN (evL x t i 0)) H'
theorem ok_evl {f : Addr} {fd : FuncData} (F : Fun K "event_lot" "event_lot" s_event_lot f fd) (n_enumerate : mg "enumerate" = none) : FnOk P w K mg base CX0 1 f fd ["tale", "name", "i"] (spEvL K) := by
  refine F.ok sc_event_lot (fun vs H Q E h => ?_) (fun cdv A outer s H vs Q E hr h => ?_)
  · obtain ⟨_, _, _, _, rfl, _⟩ := h
    rfl
  · obtain ⟨v, x, i0, ls, rfl, dv, q⟩ := h
    obtain ⟨a, its, rfl, ea, al⟩ := dp_seq dv
    refine ⟨_, (Evl.pss_cut (ps_for PassesOwn.never rfl (pi_enumT (by rfl) n_enumerate (pa_cons (pv 0) pa_nil)) (pg_tup rfl (pgs_cons (pg_name (i := 3) sc_event_lot.nd rfl (Or.inl rfl)) (pgs_cons (pg_name (i := 4) sc_event_lot.nd rfl (Or.inl rfl)) pgs_nil)))
      (pss_one (ps_if (pt_cmpR op_in_seq (pv 1) (pv 4) rfl) (pss_cons (ps_aug (i := 2) sc_event_lot.nd rfl (Or.inl rfl) pe_int ip_sub)
    (pss_one (ps_if (pt_cmpR op_eq (pv 2) pe_int (nomark _)) (pss_one (ps_ret (pv 3))) pss_nil))) pss_nil)))
    (pss_one (ps_ret pe_non))), ?_⟩
    have ln := al.len
    refine ⟨fun σ H' => (∃ o2 o3 o4, σ = [some (.ref a), some (.str x), o2, o3, o4]) ∧ Same H H' ∧ evL x ls i0 0 = none, ?_, fun σ H' hp => by
      obtain ⟨⟨o2, o3, o4, e⟩, s1, no⟩ := hp
      subst e
      have z := q H' s1
      rw [no] at z
      exact z⟩
    refine ⟨_, rfl, a, rfl, ⟨its, ea⟩, ?_⟩
    refine for_en en_tup (fun j σ H' => (∃ (i : Int) (o3 o4 : Option V), σ = [some (.ref a), some (.str x), some (.int i), o3, o4] ∧ evL x ls i0 0 = evL x (ls.drop j) i j) ∧ Same H H') ⟨⟨i0, none, none, rfl, rfl⟩, Same.refl _⟩ (fun j σ H' pv => tupFix (Fix.of pv.2) ea) ?_ ?_
    · rintro j σ H1 y t ey ⟨⟨i, o3, o4, rfl, ev⟩, s1⟩ ht
      obtain ⟨l, el, dl⟩ := al.get ey
      obtain ⟨b, rfl, eb⟩ := dp_lot dl
      have hj := (List.getElem?_eq_some_iff.mp el).1
      have s2 := same_new ht (.tup [.int (j : Nat), .ref b])
      refine ⟨t, _, rfl, SqT.of upd_same, rfl, _, _, rfl, _, _, rfl, rfl, ?_⟩
      generalize upd H1 t (.tup [.int (j : Nat), .ref b]) = H2 at s2 ⊢
      have s12 := s1.trans s2
      have edr : ls.drop j = l :: ls.drop (j + 1) := by rw [List.drop_eq_getElem_cons hj, (List.getElem?_eq_some_iff.mp el).2]
      rw [edr] at ev
      have ev : evL x ls i0 0 = if x ∈ l then (if i - 1 = 0 then some j else evL x (ls.drop (j + 1)) (i - 1) (j + 1)) else evL x (ls.drop (j + 1)) i (j + 1) := ev
      refine ⟨_, rfl, _, rfl, b, _, rfl, .inr (tupFix (Fix.of s12) eb), rfl, flat_strs l, _, rfl, ?_⟩
      rw [inV_strs]
      refine iteD (fun c => ?_) fun c => ?_
      · rw [if_pos c] at ev
        refine ⟨_, rfl, _, _, rfl, rfl, _, rfl, rfl, _, rfl, iteD (fun z => ?_) fun z => ?_⟩
        · have z : i - 1 = 0 := by injection z
          rw [if_pos z] at ev
          have := q H2 s12
          rw [ev] at this
          exact ⟨_, rfl, this⟩
        · rw [if_neg fun y => z (by show V.int (i - 1) = V.int 0; rw [y])] at ev
          exact ⟨⟨_, _, _, rfl, ev⟩, s12⟩
      · rw [if_neg c] at ev
        exact ⟨⟨_, _, _, rfl, ev⟩, s12⟩
    · rintro σ H1 ⟨⟨i, o3, o4, rfl, ev⟩, s1⟩
      rw [ln, List.drop_length] at ev
      exact ⟨⟨_, _, _, rfl⟩, s1, ev⟩
/-! ### many_lots -/
abbrev s_Rooms_many_lots : Stmt := inClass (top 22) 2
theorem sc_Rooms_many_lots : FnScope ["self", "name", "room", "tale"] ["self", "name"] (defScope s_Rooms_many_lots) := ⟨rfl, rfl, rfl, by decide +kernel, rfl, by decide +kernel, by decide +kernel⟩
def spManyL (K : PySem.W.Frag) (C CN : Addr) : Sp := fun vs H Q E => ∃ (m : Addr) (x : Str) (R : RD), vs = [.ref m, .str x] ∧ RoomsAt K C H m R ∧ (∀ t, R.rooms.lookup x = some t → ∀ H', Same H H' → Q (.int (t.length : Nat)) H') ∧
  (R.rooms.lookup x = none → ∀ dd H', Same H H' → H' dd = some (errN (.str x)) → E (.ref CN) (some dd) H')
theorem ok_many {f C CN fN : Addr} {fd : FuncData} (F : Fun K "many_lots" "Rooms.many_lots" s_Rooms_many_lots f fd) (TC : RmT K C) (TN : Xk.ErrC K mg "NoName" CN fN) (n_len : mg "len" = none) : FnOk P w K mg base (L2.CX P w) 2 f fd ["self", "name"] (spManyL K C CN) := by
  refine F.okX sc_Rooms_many_lots (fun vs H Q E h => ?_) (fun cdv A outer s H vs Q E hr h => ?_)
  · obtain ⟨_, _, _, rfl, _⟩ := h
    rfl
  · obtain ⟨m, x, R, rfl, ⟨dx, a, b, c, hm, d1, d2, d3⟩, q, qe⟩ := h
    refine ⟨_, (Evl.pss_cut (ps_for (passes_of rfl) rfl (pi_seq (pe_fld (pv 0) rfl)) (pg_tup rfl (pgs_cons (pg_name (i := 2) sc_Rooms_many_lots.nd rfl (Or.inl rfl)) (pgs_cons (pg_name (i := 3) sc_Rooms_many_lots.nd rfl (Or.inl rfl)) pgs_nil)))
      (pss_one (ps_if (pt_cmpR op_eq (pv 2) (pv 1) (nomark _)) (pss_one (ps_ret (pe_callB call_len_seq (by rfl) n_len PySem.boot_len (pa_cons (pv 3) pa_nil)))) pss_nil)))
    (pss_one (Xk.ps_raiseAt rfl TN hr (takes_of rfl rfl rfl rfl) (pa_cons (pv 1) pa_nil) rfl))), ?_⟩
    obtain ⟨ra, xs, ea, hra, al⟩ := dp_seq d1
    cases ea
    have ln := al.len
    refine ⟨fun σ H' => (∃ o2 o3, σ = [some (.ref m), some (.str x), o2, o3]) ∧ H' = H ∧ R.rooms.lookup x = none, ?_, ?_⟩
    · refine ⟨_, rfl, m, C, dx, _, _, rfl, hm, TC.cl, TC.nR, rfl, a, xs, rfl, .inr hra, fun J S W s0 => ?_⟩
      refine for_sq W (fun i σ H' => (∃ o2 o3, σ = [some (.ref m), some (.str x), o2, o3]) ∧ H' = H ∧ (R.rooms.drop i).lookup x = R.rooms.lookup x) ⟨⟨none, none, rfl⟩, rfl, rfl⟩ (fun i σ H' pv => by obtain ⟨_, rfl, _⟩ := pv; exact s0) ?_ ?_
      · rintro i σ H' y ey ⟨⟨o2, o3, rfl⟩, rfl, lk⟩
        obtain ⟨r, er, dr⟩ := al.get ey
        obtain ⟨b', vt, rfl, hb, ht⟩ := dp_rm dr
        have hi := (List.getElem?_eq_some_iff.mp er).1
        rw [List.drop_eq_getElem_cons hi, (List.getElem?_eq_some_iff.mp er).2] at lk
        have lk : ((r.1, r.2) :: R.rooms.drop (i + 1)).lookup x = _ := lk
        refine ⟨b', _, rfl, hb, rfl, _, _, rfl, _, _, rfl, rfl, ?_⟩
        refine ⟨_, rfl, _, rfl, rfl, _, rfl, ?_⟩
        rw [eqStr]
        refine iteD (fun e => ?_) fun e => ?_
        · subst e
          rw [List.lookup_cons, beq_self_eq_true] at lk
          obtain ⟨tb, ys, rfl, htb, tl⟩ := dp_seq ht
          refine ⟨_, rfl, tb, _, rfl, .inr htb, ?_⟩
          rw [tl.len]
          exact q _ lk.symm _ (Same.refl _)
        · rw [List.lookup_cons, show (x == r.1) = false from by simpa using fun z => e z.symm] at lk
          exact ⟨⟨_, _, rfl⟩, rfl, lk⟩
      · rintro σ H' ⟨h1, rfl, lk⟩
        rw [ln, List.drop_length] at lk
        exact ⟨h1, rfl, lk.symm⟩
    rintro σ H' ⟨⟨o2, o3, rfl⟩, rfl, lk⟩
    exact ⟨_, rfl, _, rfl, fun dd hn => qe lk dd _ (same_new hn _) upd_same⟩
end
end R0

namespace R0
open PySem PySem.Spec PyProof.Rows L2 Hb St Sq Ow En Zp RZ Rd Xb Da
theorem lot_cons (r : Rm) (rs : List Rm) (d : PyData) : lotOfR (r :: rs) d = if stB [(r.1, (r.2.length : Int))] d = true then (match d with
    | .tuple [_, .int i] => r.2[(i - 1).toNat]?
    | _ => none) else lotOfR rs d := rfl
section
variable {P : Program} {w : World} {K : PySem.W.Frag} {mg : Str → Option Value} {base : Heap}
/-! ### lot_of -/
abbrev s_Rooms_lot_of : Stmt := inClass (top 22) 3
theorem sc_Rooms_lot_of : FnScope ["self", "step", "room", "tale"] ["self", "step"] (defScope s_Rooms_lot_of) := ⟨rfl, rfl, rfl, by decide +kernel, rfl, by decide +kernel, by decide +kernel⟩
def spLotOf (K : PySem.W.Frag) (C CN : Addr) : Sp := fun vs H Q E => ∃ (m : Addr) (v : V) (d : PyData) (R : RD), vs = [.ref m, v] ∧ RoomsAt K C H m R ∧ Dp K H v d ∧ SmS d ∧ (∀ l, lotOfR R.rooms d = some l → ∀ v' H', Same H H' → Dp K H' v' (lD l) → Q v' H') ∧
  (lotOfR R.rooms d = none → ∀ dd H', Same H H' → H' dd = some (errN v) → E (.ref CN) (some dd) H')
theorem ok_lotof {f C CN fN : Addr} {fd : FuncData} (F : Fun K "lot_of" "Rooms.lot_of" s_Rooms_lot_of f fd) (TC : RmT K C) (TN : Xk.ErrC K mg "NoName" CN fN) (C_is_step : Cl P w K mg base "is_step" ["many", "value"] [] 3 (spStep K)) (n_len : mg "len" = none) : FnOk P w K mg base (L2.CX P w) 4 f fd ["self", "step"] (spLotOf K C CN) := by
  refine F.okX sc_Rooms_lot_of (fun vs H Q E h => ?_) (fun cdv A outer s H vs Q E hr h => ?_)
  · obtain ⟨_, _, _, _, rfl, _⟩ := h
    rfl
  · obtain ⟨m, v, d, R, rfl, ⟨dx, a, b, c, hm, d1, d2, d3⟩, dv, sd, q, qe⟩ := h
    refine ⟨_, (Evl.pss_cut (ps_for (passes_of rfl) rfl (pi_seq (pe_fld (pv 0) rfl)) (pg_tup rfl (pgs_cons (pg_name (i := 2) sc_Rooms_lot_of.nd rfl (Or.inl rfl)) (pgs_cons (pg_name (i := 3) sc_Rooms_lot_of.nd rfl (Or.inl rfl)) pgs_nil)))
      (pss_one (ps_if (pt_val (pe_use C_is_step (hr.mono (by decide)) rfl (pa_cons (pe_disp (pps_cons (pv 2) (pe_callB call_len_seq (by rfl) n_len PySem.boot_len (pa_cons (pv 3) pa_nil)) pps_nil) (by rfl) (by rfl) (fun z => by cases z) (by decide)) (pa_cons (pv 1) pa_nil)))) (pss_one (ps_ret (pe_ix ix_tup (pv 3) (pe_op op_sub (pe_ix ix_tup (pv 1) pe_int (fun _ _ => rfl)) pe_int) (fun _ _ => rfl)))) pss_nil)))
    (pss_one (Xk.ps_raiseAt rfl TN hr (takes_of rfl rfl rfl rfl) (pa_cons (pv 1) pa_nil) rfl))), ?_⟩
    obtain ⟨ra, xs, ea, hra, al⟩ := dp_seq d1
    cases ea
    have ln := al.len
    refine ⟨fun σ H' => (∃ o2 o3, σ = [some (.ref m), some v, o2, o3]) ∧ Same H H' ∧ lotOfR R.rooms d = none, ?_, ?_⟩
    · refine ⟨_, rfl, m, C, dx, _, _, rfl, hm, TC.cl, TC.nR, rfl, a, xs, rfl, .inr hra, fun J S W s0 => ?_⟩
      refine for_sq W (fun i σ H' => (∃ o2 o3, σ = [some (.ref m), some v, o2, o3]) ∧ Same H H' ∧ lotOfR (R.rooms.drop i) d = lotOfR R.rooms d) ⟨⟨none, none, rfl⟩, Same.refl _, rfl⟩ (fun i σ H' pv => W.keep (fun o e => pv.2.1 _ _ e) s0) ?_ ?_
      · rintro i σ H1 y ey ⟨⟨o2, o3, rfl⟩, s1, lk⟩
        obtain ⟨r, er, dr⟩ := al.get ey
        obtain ⟨b', vt, rfl, hb, ht⟩ := dp_rm (dp_same s1 dr)
        have hi := (List.getElem?_eq_some_iff.mp er).1
        rw [List.drop_eq_getElem_cons hi, (List.getElem?_eq_some_iff.mp er).2, lot_cons] at lk
        obtain ⟨tb, ys, rfl, htb, tl⟩ := dp_seq ht
        refine ⟨b', _, rfl, hb, rfl, _, _, rfl, _, _, rfl, rfl, ?_⟩
        refine fun p hp => ?_
        have s2 := same_new hp (.dK [])
        refine ⟨_, rfl, _, rfl, tb, _, rfl, .inr (tupFix (Fix.of s2) htb), upd_same, [(Sum.inr r.1, .int (ys.length : Nat))], rfl, by show 1 ≤ 15; decide, ?_⟩
        have e3 : upd (upd H1 p (.dK [])) p (.dK (mergeK [] [(Sum.inr r.1, V.int (ys.length : Nat))])) = upd H1 p (.dK [(Sum.inr r.1, V.int (ys.length : Nat))]) := by
          funext z
          by_cases c : z = p
          · subst c; rw [upd_same, upd_same]; rfl
          · rw [upd_ne c, upd_ne c, upd_ne c]
        rw [e3, tl.len]
        have s3 := same_new hp (.dK [(Sum.inr r.1, V.int (r.2.length : Nat))])
        have ed : upd H1 p (.dK [(Sum.inr r.1, V.int (r.2.length : Nat))]) p = some (.dK (mnK [(r.1, (r.2.length : Int))])) := upd_same
        generalize upd H1 p (.dK [(Sum.inr r.1, V.int (r.2.length : Nat))]) = H2 at s3 ed ⊢
        have s12 := s1.trans s3
        refine ⟨_, rfl, p, [(r.1, (r.2.length : Int))], v, d, rfl, ed, dp_same s12 dv, sd, _, rfl, ?_⟩
        cases c : stB [(r.1, (r.2.length : Int))] d with
        | false =>
          rw [c, if_neg (by decide)] at lk
          exact iteF ⟨⟨_, _, rfl⟩, s12, lk⟩
        | true =>
          obtain ⟨x, i', n, rfl, e1, e2, e4, e5⟩ := st_shape c
          rw [c, if_pos rfl] at lk
          have lk : r.2[(i' - 1).toNat]? = lotOfR R.rooms (.tuple [.str x, .int i']) := lk
          rw [List.lookup_cons] at e1
          have en : (r.2.length : Int) = n := by
            cases z : (x == r.1) with
            | true => rw [z] at e1; exact Option.some.inj e1
            | false => rw [z] at e1; cases e1
          have hl : (i' - 1).toNat < r.2.length := by omega
          obtain ⟨v1, v2, w', rfl, hw, g1, g2⟩ := dp_two (dp_same s12 dv)
          cases g2
          obtain ⟨l, el⟩ : ∃ l, r.2[(i' - 1).toNat]? = some l := ⟨_, List.getElem?_eq_getElem hl⟩
          obtain ⟨y, ey', yl⟩ := tl.getR el
          have ei : i' - 1 = (((i' - 1).toNat : Nat) : Int) := by omega
          refine iteT ⟨_, rfl, _, rfl, v1, _, _, _, rfl, rfl, hw, at1, _, _, rfl, rfl, tb, _, _, y, rfl, rfl, tupFix (Fix.of s3) htb, by rw [ei]; exact at_nat ey', ?_⟩
          exact q l (by rw [← lk, el]) y _ s12 (dp_same s3 yl)
      · rintro σ H' ⟨h1, s1, lk⟩
        rw [ln, List.drop_length] at lk
        exact ⟨h1, s1, lk.symm⟩
    rintro σ H' ⟨⟨o2, o3, rfl⟩, s1, lk⟩
    exact ⟨_, rfl, _, rfl, fun dd hn => qe lk dd _ (s1.trans (same_new hn _)) upd_same⟩
end
end R0

namespace R0
open PySem PySem.Spec PyProof.Rows L2 Hb St Sq Ow En Zp RZ Rd Xb Da
theorem step_cons (name bell : Str) (d : PyData) (r : Rm) (rs : List Rm) : stepOfR name bell d (r :: rs) = match (if r.1 = name then turnN bell r.2 d else none) with
    | some n => some n
    | none => stepOfR name bell d rs := rfl
theorem optN_some (n : Nat) : optN (some n) = .int (n : Nat) := rfl
section
variable {P : Program} {w : World} {K : PySem.W.Frag} {mg : Str → Option Value} {base : Heap}
/-! ### step_of -/
abbrev s_Rooms_step_of : Stmt := inClass (top 22) 4
theorem sc_Rooms_step_of : FnScope ["self", "name", "bell", "turn", "room", "tale", "number"] ["self", "name", "bell", "turn"] (defScope s_Rooms_step_of) := ⟨rfl, rfl, rfl, by decide +kernel, rfl, by decide +kernel, by decide +kernel⟩
def spStepOf (K : PySem.W.Frag) (C CN : Addr) : Sp := fun vs H Q E => ∃ (m : Addr) (x bell : Str) (v : V) (d : PyData) (R : RD), vs = [.ref m, .str x, .str bell, v] ∧ RoomsAt K C H m R ∧ Dp K H v d ∧ (∀ n, stepOfR x bell d R.rooms = some n → ∀ p H', Same H H' → H' p = some (.tup [.str x, .int ((n : Nat) + 1 : Int)]) → Q (.ref p) H') ∧
  (stepOfR x bell d R.rooms = none → ∀ dd t H', Same H H' → H' t = some (.tup [.str x, .str bell, v]) → H' dd = some (errN (.ref t)) → E (.ref CN) (some dd) H')
theorem ok_stepof {f C CN fN : Addr} {fd : FuncData} (F : Fun K "step_of" "Rooms.step_of" s_Rooms_step_of f fd) (TC : RmT K C) (TN : Xk.ErrC K mg "NoName" CN fN) (C_event_lot : Cl P w K mg base "event_lot" ["tale", "name", "i"] [] 1 (spEvL K)) (C_is_count : Cl P w K mg base "is_count" ["value"] [] 2 (spCntD K)) : FnOk P w K mg base (L2.CX P w) 4 f fd ["self", "name", "bell", "turn"] (spStepOf K C CN) := by
  refine F.okX sc_Rooms_step_of (fun vs H Q E h => ?_) (fun cdv A outer s H vs Q E hr h => ?_)
  · obtain ⟨_, _, _, _, _, _, rfl, _⟩ := h
    rfl
  · obtain ⟨m, x, bell, v, d, R, rfl, ⟨dx, a, b, c, hm, d1, d2, d3⟩, dv, q, qe⟩ := h
    refine ⟨_, (Evl.pss_cut (ps_for (passes_of rfl) rfl (pi_seq (pe_fld (pv 0) rfl)) (pg_tup rfl (pgs_cons (pg_name (i := 4) sc_Rooms_step_of.nd rfl (Or.inl rfl)) (pgs_cons (pg_name (i := 5) sc_Rooms_step_of.nd rfl (Or.inl rfl)) pgs_nil)))
      (Evl.pss_cut (ps_set (i := 6) sc_Rooms_step_of.nd rfl (Or.inl rfl) (pe_ifExp (PW.pt (pw_and (pt_cmpR op_eq (pv 4) (pv 1) (nomark _)) (pw_and1 (pt_val (pe_use C_is_count (hr.mono (by decide)) rfl (pa_cons (pv 3) pa_nil)))))) (pe_use C_event_lot (hr.mono (by decide)) rfl (pa_cons (pv 5) (pa_cons (pv 2) (pa_cons (pv 3) pa_nil)))) pe_non))
    (pss_one (ps_if (pt_cmpR op_notN (pv 6) pe_non (nomark _)) (pss_one (ps_ret (pe_tup (pa_cons (pv 4) (pa_cons (pe_op op_add (pv 6) pe_int) pa_nil))))) pss_nil))))
    (pss_one (Xk.ps_raiseAt rfl TN hr (takes_of rfl rfl rfl rfl) (pa_cons (pe_tup (pa_cons (pv 1) (pa_cons (pv 2) (pa_cons (pv 3) pa_nil)))) pa_nil) rfl))), ?_⟩
    obtain ⟨ra, xs, ea, hra, al⟩ := dp_seq d1
    cases ea
    have ln := al.len
    refine ⟨fun σ H' => (∃ o2 o3 o4, σ = [some (.ref m), some (.str x), some (.str bell), some v, o2, o3, o4]) ∧ Same H H' ∧ stepOfR x bell d R.rooms = none, ?_, ?_⟩
    · refine ⟨_, rfl, m, C, dx, _, _, rfl, hm, TC.cl, TC.nR, rfl, a, xs, rfl, .inr hra, fun J S W s0 => ?_⟩
      refine for_sq W (fun i σ H' => (∃ o2 o3 o4, σ = [some (.ref m), some (.str x), some (.str bell), some v, o2, o3, o4]) ∧ Same H H' ∧ stepOfR x bell d (R.rooms.drop i) = stepOfR x bell d R.rooms) ⟨⟨none, none, none, rfl⟩, Same.refl _, rfl⟩ (fun i σ H' pv => W.keep (fun o e => pv.2.1 _ _ e) s0) ?_ ?_
      · rintro i σ H1 y ey ⟨⟨o2, o3, o4, rfl⟩, s1, lk⟩
        obtain ⟨r, er, dr⟩ := al.get ey
        obtain ⟨b', vt, rfl, hb, ht⟩ := dp_rm (dp_same s1 dr)
        have hi := (List.getElem?_eq_some_iff.mp er).1
        rw [List.drop_eq_getElem_cons hi, (List.getElem?_eq_some_iff.mp er).2, step_cons] at lk
        refine ⟨b', _, rfl, hb, rfl, _, _, rfl, _, _, rfl, rfl, ?_⟩
        refine ⟨fun σ H' => σ = [some (.ref m), some (.str x), some (.str bell), some v, some (.str r.1), some vt, some (optN (if r.1 = x then turnN bell r.2 d else none))] ∧ Same H H', ?_, ?_⟩
        · refine ⟨_, rfl, _, rfl, rfl, _, rfl, ?_⟩
          rw [eqStr]
          refine iteD (fun e => ?_) fun e => ?_
          · refine ⟨_, rfl, v, d, rfl, dp_same s1 dv, _, rfl, ?_⟩
            rw [if_pos e]
            have dv1 := dp_same s1 dv
            cases dv1 with
            | int i =>
              cases c1 : cntD (.int i) with
              | true =>
                refine iteT ⟨_, rfl, _, rfl, _, rfl, vt, bell, i, r.2, rfl, ht, fun H2 s2 => ⟨?_, s1.trans s2⟩⟩
                rw [show turnN bell r.2 (.int i) = evL bell r.2 i 0 from if_pos (of_decide_eq_true c1)]
                rfl
              | false =>
                refine iteF ⟨?_, s1⟩
                rw [show turnN bell r.2 (.int i) = none from if_neg (of_decide_eq_false c1)]
                rfl
            | _ => exact iteF ⟨rfl, s1⟩
          · rw [if_neg e]
            exact iteF ⟨rfl, s1⟩
        rintro σ H2 ⟨rfl, s2⟩
        cases c2 : (if r.1 = x then turnN bell r.2 d else none) with
        | none =>
          rw [c2] at lk
          exact ⟨_, rfl, rfl, _, rfl, iteF ⟨⟨_, _, _, rfl⟩, s2, lk⟩⟩
        | some n =>
          rw [c2] at lk
          have ex : r.1 = x := by
            by_cases e : r.1 = x
            · exact e
            · rw [if_neg e] at c2; cases c2
          refine ⟨_, rfl, rfl, _, rfl, iteT ⟨_, rfl, _, rfl, _, _, rfl, rfl, by show 2 ≤ sizeLine; decide, fun t ht => ?_⟩⟩
          rw [ex]
          exact q n lk.symm t _ (s2.trans (same_new ht _)) upd_same
      · rintro σ H' ⟨h1, s1, lk⟩
        rw [ln, List.drop_length] at lk
        exact ⟨h1, s1, lk.symm⟩
    rintro σ H1 ⟨⟨o2, o3, o4, rfl⟩, s1, lk⟩
    refine ⟨_, rfl, _, rfl, _, rfl, by show 3 ≤ sizeLine; decide, fun t ht => ⟨_, rfl, fun dd hn => ?_⟩⟩
    have s2 := same_new ht (.tup [V.str x, .str bell, v])
    have s3 := same_new hn (errN (.ref t))
    exact qe lk dd t _ ((s1.trans s2).trans s3) (s3 _ _ upd_same) upd_same
end
end R0

namespace R0
open PySem PySem.Spec PyProof.Rows L2 Hb St Sq Ow En Zp RZ Rd Xb Da
section
variable {P : Program} {w : World} {K : PySem.W.Frag} {mg : Str → Option Value} {base : Heap}
theorem dpa_app {H : Hp} : ∀ {xs ys : List V} {ds es : List PyData}, DpAll K H xs ds → DpAll K H ys es → DpAll K H (xs ++ ys) (ds ++ es)
  | _, _, _, _, .nil, h => h
  | _, _, _, _, .cons h t, k => .cons h (dpa_app t k)
theorem none_back {H H' : Hp} {m : Addr} (s : Same H H') (h : H' m = none) : H m = none := by
  cases c : H m with
  | none => rfl
  | some o => rw [s _ _ c] at h; cases h
/-! ### with_gong -/
abbrev s_Rooms_with_gong : Stmt := inClass (top 22) 5
theorem sc_Rooms_with_gong : FnScope ["self", "one", "other"] ["self", "one", "other"] (defScope s_Rooms_with_gong) := ⟨rfl, rfl, rfl, by decide +kernel, rfl, by decide +kernel, by decide +kernel⟩
def spWithG (K : PySem.W.Frag) (C CR : Addr) : Sp := fun vs H Q E => ∃ (m : Addr) (v1 v2 : V) (d1 d2 : PyData) (dr dg dc : List PyData), vs = [.ref m, v1, v2] ∧ RmAt K C H m dr dg dc ∧ Dp K H v1 d1 ∧ Dp K H v2 d2 ∧ SmR (.tuple dr) ∧ SmJs (.tuple (dg ++ [.tuple [d1, d2]])) ∧ SmJs (.tuple dc) ∧
  (rmErr (.tuple dr) (.tuple (dg ++ [.tuple [d1, d2]])) (.tuple dc) = none → ∀ m2 H', Same H H' → H m2 = none → RmAt K C H' m2 dr (dg ++ [.tuple [d1, d2]]) dc → Q (.ref m2) H') ∧
  ∀ k : Nat, rmErr (.tuple dr) (.tuple (dg ++ [.tuple [d1, d2]])) (.tuple dc) = some k → ∀ dd H', Same H H' → H' dd = some (errH k) → E (.ref CR) (some dd) H'
theorem ok_withg {f C CR eg ec : Addr} {fd : FuncData} (F : Fun K "with_gong" "Rooms.with_gong" s_Rooms_with_gong f fd) (TC : RmT K C) (M_Rooms : MkR P w K mg base C CR eg ec) : FnOk P w K mg base (L2.CX P w) 7 f fd ["self", "one", "other"] (spWithG K C CR) := by
  refine F.okX sc_Rooms_with_gong (fun vs H Q E h => ?_) (fun cdv A outer s H vs Q E hr h => ?_)
  · obtain ⟨_, _, _, _, _, _, _, _, rfl, _⟩ := h
    rfl
  · obtain ⟨m, v1, v2, d1, d2, dr, dg, dc, rfl, ⟨dx, a, b, c, hm, e1, e2, e3⟩, h1, h2, smr, smg, smc, q, qe⟩ := h
    refine ⟨_, (pss_one (ps_ret (pe_mk3 M_Rooms hr (passes_call (takes_of rfl rfl rfl rfl) (fun _ _ _ _ h => h)) rfl (pa_cons (pe_fld (pv 0) rfl) (pa_cons (pe_tup (StX.pa_star (pe_fld (pv 0) rfl) (pa_cons (pe_tup (pa_cons (pv 1) (pa_cons (pv 2) pa_nil))) pa_nil))) (pa_cons (pe_fld (pv 0) rfl) pa_nil)))))), ?_⟩
    refine ⟨_, rfl, m, C, dx, _, _, rfl, hm, TC.cl, TC.nR, rfl, ?_⟩
    cases e2 with
    | @tup _ xs _ hb al =>
    refine ⟨_, rfl, m, C, dx, _, _, rfl, hm, TC.cl, TC.nG, rfl, b, xs, rfl, .inl hb, _, rfl, _, rfl, by show 2 ≤ sizeLine; decide, fun t ht => ?_⟩
    have s1 := same_new ht (.tup [v1, v2])
    have et : upd H t (.tup [v1, v2]) t = some (.tup [v1, v2]) := upd_same
    generalize upd H t (.tup [v1, v2]) = H1 at s1 et ⊢
    have l1 : (dg ++ [PyData.tuple [d1, d2]]).length ≤ 1000 := smg.1
    have l2 := (dpa_all al).len
    refine ⟨by rw [List.length_append] at l1 ⊢; rw [sizeLine_eq]; simp only [List.length_singleton] at l1 ⊢; omega, fun p hp => ?_⟩
    have s2 := same_new hp (.tup (xs ++ [V.ref t]))
    have ep : upd H1 p (.tup (xs ++ [V.ref t])) p = some (.tup (xs ++ [V.ref t])) := upd_same
    generalize upd H1 p (.tup (xs ++ [V.ref t])) = H2 at s2 ep ⊢
    have s12 := s1.trans s2
    refine ⟨_, rfl, m, C, dx, _, _, rfl, s12 _ _ hm, TC.cl, TC.nC, rfl, ?_⟩
    have dg2 : Dp K H2 (.ref p) (.tuple (dg ++ [.tuple [d1, d2]])) := .tup (SqT.of ep) (dpa_app (dpa_same s12 al) (.cons (.tup (SqT.of (s2 _ _ et)) (.cons (dp_same s12 h1) (.cons (dp_same s12 h2) .nil))) .nil))
    exact rd_make (dp_same s12 e1) dg2 (dp_same s12 e3) smr smg smc (fun no m2 H' s h r => q no m2 H' (s12.trans s) (none_back s12 h) r) fun k ek dd H' s e => qe k ek dd H' (s12.trans s) e
/-! ### with_call -/
abbrev s_Rooms_with_call : Stmt := inClass (top 22) 6
theorem sc_Rooms_with_call : FnScope ["self", "one", "other"] ["self", "one", "other"] (defScope s_Rooms_with_call) := ⟨rfl, rfl, rfl, by decide +kernel, rfl, by decide +kernel, by decide +kernel⟩
def spWithC (K : PySem.W.Frag) (C CR : Addr) : Sp := fun vs H Q E => ∃ (m : Addr) (v1 v2 : V) (d1 d2 : PyData) (dr dg dc : List PyData), vs = [.ref m, v1, v2] ∧ RmAt K C H m dr dg dc ∧ Dp K H v1 d1 ∧ Dp K H v2 d2 ∧ SmR (.tuple dr) ∧ SmJs (.tuple dg) ∧ SmJs (.tuple (dc ++ [.tuple [d1, d2]])) ∧
  (rmErr (.tuple dr) (.tuple dg) (.tuple (dc ++ [.tuple [d1, d2]])) = none → ∀ m2 H', Same H H' → H m2 = none → RmAt K C H' m2 dr dg (dc ++ [.tuple [d1, d2]]) → Q (.ref m2) H') ∧
  ∀ k : Nat, rmErr (.tuple dr) (.tuple dg) (.tuple (dc ++ [.tuple [d1, d2]])) = some k → ∀ dd H', Same H H' → H' dd = some (errH k) → E (.ref CR) (some dd) H'
theorem ok_withc {f C CR eg ec : Addr} {fd : FuncData} (F : Fun K "with_call" "Rooms.with_call" s_Rooms_with_call f fd) (TC : RmT K C) (M_Rooms : MkR P w K mg base C CR eg ec) : FnOk P w K mg base (L2.CX P w) 7 f fd ["self", "one", "other"] (spWithC K C CR) := by
  refine F.okX sc_Rooms_with_call (fun vs H Q E h => ?_) (fun cdv A outer s H vs Q E hr h => ?_)
  · obtain ⟨_, _, _, _, _, _, _, _, rfl, _⟩ := h
    rfl
  · obtain ⟨m, v1, v2, d1, d2, dr, dg, dc, rfl, ⟨dx, a, b, c, hm, e1, e2, e3⟩, h1, h2, smr, smg, smc, q, qe⟩ := h
    refine ⟨_, (pss_one (ps_ret (pe_mk3 M_Rooms hr (passes_call (takes_of rfl rfl rfl rfl) (fun _ _ _ _ h => h)) rfl (pa_cons (pe_fld (pv 0) rfl) (pa_cons (pe_fld (pv 0) rfl) (pa_cons (pe_tup (StX.pa_star (pe_fld (pv 0) rfl) (pa_cons (pe_tup (pa_cons (pv 1) (pa_cons (pv 2) pa_nil))) pa_nil))) pa_nil)))))), ?_⟩
    refine ⟨_, rfl, m, C, dx, _, _, rfl, hm, TC.cl, TC.nR, rfl, _, rfl, m, C, dx, _, _, rfl, hm, TC.cl, TC.nG, rfl, ?_⟩
    cases e3 with
    | @tup _ xs _ hb al =>
    refine ⟨_, rfl, m, C, dx, _, _, rfl, hm, TC.cl, TC.nC, rfl, c, xs, rfl, .inl hb, _, rfl, _, rfl, by show 2 ≤ sizeLine; decide, fun t ht => ?_⟩
    have s1 := same_new ht (.tup [v1, v2])
    have et : upd H t (.tup [v1, v2]) t = some (.tup [v1, v2]) := upd_same
    generalize upd H t (.tup [v1, v2]) = H1 at s1 et ⊢
    have l1 : (dc ++ [PyData.tuple [d1, d2]]).length ≤ 1000 := smc.1
    have l2 := (dpa_all al).len
    refine ⟨by rw [List.length_append] at l1 ⊢; rw [sizeLine_eq]; simp only [List.length_singleton] at l1 ⊢; omega, fun p hp => ?_⟩
    have s2 := same_new hp (.tup (xs ++ [V.ref t]))
    have ep : upd H1 p (.tup (xs ++ [V.ref t])) p = some (.tup (xs ++ [V.ref t])) := upd_same
    generalize upd H1 p (.tup (xs ++ [V.ref t])) = H2 at s2 ep ⊢
    have s12 := s1.trans s2
    have dc2 : Dp K H2 (.ref p) (.tuple (dc ++ [.tuple [d1, d2]])) := .tup (SqT.of ep) (dpa_app (dpa_same s12 al) (.cons (.tup (SqT.of (s2 _ _ et)) (.cons (dp_same s12 h1) (.cons (dp_same s12 h2) .nil))) .nil))
    exact rd_make (dp_same s12 e1) (dp_same s12 e2) dc2 smr smg smc (fun no m2 H' s h r => q no m2 H' (s12.trans s) (none_back s12 h) r) fun k ek dd H' s e => qe k ek dd H' (s12.trans s) e
/-! ### without_joins -/
abbrev s_Rooms_without_joins : Stmt := inClass (top 22) 7
theorem sc_Rooms_without_joins : FnScope ["self"] ["self"] (defScope s_Rooms_without_joins) := ⟨rfl, rfl, rfl, by decide +kernel, rfl, by decide +kernel, by decide +kernel⟩
def spWithout (K : PySem.W.Frag) (C CR : Addr) : Sp := fun vs H Q E => ∃ (m : Addr) (dr dg dc : List PyData), vs = [.ref m] ∧ RmAt K C H m dr dg dc ∧ SmR (.tuple dr) ∧ rmErr (.tuple dr) (.tuple []) (.tuple []) = none ∧ ∀ m2 H', Same H H' → H m2 = none → RmAt K C H' m2 dr [] [] → Q (.ref m2) H'
theorem ok_without {f C CR eg ec : Addr} {fd : FuncData} (F : Fun K "without_joins" "Rooms.without_joins" s_Rooms_without_joins f fd) (TC : RmT K C) (M_Rooms : MkR P w K mg base C CR eg ec) : FnOk P w K mg base (L2.CX P w) 7 f fd ["self"] (spWithout K C CR) := by
  refine F.okX sc_Rooms_without_joins (fun vs H Q E h => ?_) (fun cdv A outer s H vs Q E hr h => ?_)
  · obtain ⟨_, _, _, _, rfl, _⟩ := h
    rfl
  · obtain ⟨m, dr, dg, dc, rfl, ⟨dx, a, b, c, hm, e1, e2, e3⟩, smr, no, q⟩ := h
    refine ⟨_, (pss_one (ps_ret (pe_mk1 M_Rooms (hr.mono (by decide)) (passes_call L2.takes0 fun _ _ _ _ h => h) rfl (pa_cons (pe_fld (pv 0) rfl) pa_nil)))), ?_⟩
    refine ⟨_, rfl, m, C, dx, _, _, rfl, hm, TC.cl, TC.nR, rfl, ?_⟩
    exact rd_make e1 (.tup (M_Rooms.eG H) .nil) (.tup (M_Rooms.eC H) .nil) smr ⟨Nat.zero_le _, fun x hx => by cases hx⟩ ⟨Nat.zero_le _, fun x hx => by cases hx⟩ (fun _ m2 H' s h r => q m2 H' s h r) fun k ek dd H' s e => by rw [no] at ek; cases ek
end
end R0

namespace Tx
open PySem PySem.Spec PyProof.Rows L2
open PySem.StrLaws (At)
abbrev tl (x : Str) : List Nat := x.cps.toList
abbrev c1 (c : Nat) : Str := ⟨#[c]⟩
theorem pre1 (c : Nat) (l : List Nat) : TL.pre [c] l = true ↔ ∃ r, l = c :: r := by
  unfold TL.pre
  cases l with
  | nil => simp
  | cons a r => simp
theorem at1 (x : Str) (c i : Nat) : At x (c1 c) x.length i ↔ ∃ r, (tl x).drop i = c :: r := by
  rw [TL.at_iff (y := c1 c) (by simp [TL.tl]) i]
  exact pre1 c _
theorem starts1 (x : Str) (c : Nat) : Txt.startswith x (c1 c) = true ↔ ∃ r, tl x = c :: r := by
  have h := at1 x c 0
  rw [List.drop_zero] at h
  rw [← h]
  unfold Txt.startswith At
  rw [Bool.and_eq_true, decide_eq_true_eq]
theorem find1_none {x : Str} {c : Nat} (h : c ∉ tl x) : Txt.find x (c1 c) = -1 := by
  rcases find_whole x (c1 c) with ⟨e, _⟩ | ⟨i, e, ha, _⟩
  · exact e
  · obtain ⟨r, hr⟩ := (at1 x c i).mp ha
    exact absurd (List.mem_of_mem_drop (by rw [hr]; exact List.mem_cons_self)) h
theorem find1_some {x : Str} {c : Nat} {p r : List Nat} (h : tl x = p ++ c :: r) (hp : c ∉ p) : Txt.find x (c1 c) = (p.length : Int) := by
  have hat : At x (c1 c) x.length p.length := (at1 x c _).mpr ⟨r, by rw [h, List.drop_left]⟩
  rcases find_whole x (c1 c) with ⟨_, no⟩ | ⟨i, e, ha, hm⟩
  · exact absurd hat (no _)
  · rcases Nat.lt_trichotomy i p.length with z | z | z
    · obtain ⟨r2, hr⟩ := (at1 x c i).mp ha
      rw [h, List.drop_append_of_le_length (by omega)] at hr
      cases hd : p.drop i with
      | nil =>
        have := congrArg List.length hd
        rw [List.length_drop, List.length_nil] at this
        omega
      | cons a q =>
        rw [hd] at hr
        have : a = c := (List.cons.inj hr).1
        exact absurd (List.mem_of_mem_drop (i := i) (by rw [hd, this]; exact List.mem_cons_self)) hp
    · rw [e, z]
    · exact absurd hat (hm _ z)
theorem split1 (x : Str) {c : Nat} (hc : c < 256) : (Txt.split x (c1 c)).map tl = TL.spl [c] 0 [] (tl x) :=
  TL.split_spl x (c1 c) (by simp [TL.tl]) (TL.kind_ok (by simpa using hc))
theorem spl_no {c : Nat} {l : List Nat} (h : c ∉ l) : TL.spl [c] 0 [] l = [l] := by
  have := TL.spl_last1 (S := []) (acc := []) h
  simpa using this
theorem spl_yes {c : Nat} {p r : List Nat} (h : c ∉ p) : TL.spl [c] 0 [] (p ++ c :: r) = p :: TL.spl [c] 0 [] r := by
  have := TL.spl_part1 (S := []) (acc := []) (rest := r) h
  simpa using this
theorem cut_at {c : Nat} {l : List Nat} (h : c ∈ l) : ∃ p r, l = p ++ c :: r ∧ c ∉ p := by
  induction l with
  | nil => cases h
  | cons a l ih =>
    by_cases e : a = c
    · exact ⟨[], l, by rw [e]; rfl, by simp⟩
    · obtain ⟨p, r, e2, hp⟩ := ih (by rcases List.mem_cons.mp h with z | z; exact absurd z.symm e; exact z)
      exact ⟨a :: p, r, by rw [e2]; rfl, by simp [hp, Ne.symm e]⟩
/-! ### words of integers -/
def figs (l : List Nat) : List Nat := match l with
  | 45 :: r => r
  | l => l
def isD (c : Nat) : Bool := decide (48 ≤ c) && decide (c ≤ 57)
def okW (l : List Nat) : Bool := decide (1 ≤ (figs l).length) && (decide ((figs l).length ≤ 9) && ((figs l).all isD && !(decide ((figs l).head? = some 48) && !decide (l = [48]))))
def valW (l : List Nat) : Int := match l with
  | 45 :: r => -((NumText.digitsVal r : Nat) : Int)
  | l => ((NumText.digitsVal l : Nat) : Int)
def wpart (l : List Nat) : Option Int := if okW l = true then some (valW l) else none
theorem all_digits {l : List Nat} (h : l.all isD = true) : NumText.AllDigits l := fun c hc => by
  have := List.all_eq_true.mp h c hc
  unfold isD at this
  rw [Bool.and_eq_true, decide_eq_true_eq, decide_eq_true_eq] at this
  exact this
theorem figs_len (l : List Nat) : (figs l).length ≤ l.length ∧ l.length ≤ (figs l).length + 1 := by
  unfold figs
  split
  · simp
  · simp
theorem okW_ok {l : List Nat} (h : okW l = true) : 1 ≤ (figs l).length ∧ (figs l).length ≤ 9 ∧ (figs l).all isD = true := by
  unfold okW at h
  rw [Bool.and_eq_true, Bool.and_eq_true, Bool.and_eq_true, decide_eq_true_eq, decide_eq_true_eq] at h
  exact ⟨h.1, h.2.1, h.2.2.1⟩
theorem int_word {x : Str} (h : okW (tl x) = true) : PySem.intText? x = some (valW (tl x)) ∧ x.length ≤ 640 := by
  obtain ⟨h1, h2, h3⟩ := okW_ok h
  have fl := figs_len (tl x)
  have hx : x.length = (tl x).length := by show x.cps.size = x.cps.toList.length; rw [Array.length_toList]
  refine ⟨?_, by omega⟩
  unfold valW
  unfold figs at h1 h3
  split
  · next r e =>
    rw [e] at h1 h3
    refine PySem.intText_neg e (all_digits h3) (fun z => ?_) (by omega)
    rw [z] at h1
    exact absurd h1 (by decide)
  · next l e =>
    have hf : (match tl x with | 45 :: r => r | l => l) = tl x := by
      split
      · next r e2 => exact absurd e2 (e r)
      · rfl
    rw [hf] at h1 h3
    refine PySem.intText_digits (all_digits h3) (fun z => ?_) (by omega)
    have h1' : 1 ≤ x.cps.toList.length := h1
    rw [z] at h1'
    exact absurd h1' (by decide)
/-- isascii and isdigit -/
theorem asc_dig (x : Str) : (Txt.isascii x && Txt.isdigit x) = (decide (1 ≤ (tl x).length) && (tl x).all isD) := by
  unfold Txt.isascii Txt.isdigit
  have e : ∀ f : Nat → Bool, x.cps.all f = (tl x).all f := fun f => by rw [← Array.all_toList]
  rw [e, e]
  have hx : x.length = (tl x).length := by show x.cps.size = x.cps.toList.length; rw [Array.length_toList]
  rw [hx]
  have key : ∀ l : List Nat, (l.all (· < 128) && l.all Unicode.isDigit) = l.all isD := by
    intro l
    induction l with
    | nil => rfl
    | cons c r ih =>
      have one : (decide (c < 128) && Unicode.isDigit c) = isD c := by
        by_cases hc : c < 128
        · have k : ∀ n : _root_.Fin 128, Unicode.isDigit n.val = isD n.val := by decide +kernel
          rw [decide_eq_true hc, Bool.true_and]
          exact k ⟨c, hc⟩
        · rw [decide_eq_false hc, Bool.false_and]
          unfold isD
          rw [decide_eq_false (show ¬ c ≤ 57 by omega), Bool.and_false]
      rw [List.all_cons, List.all_cons, List.all_cons, ← ih, ← one]
      cases decide (c < 128) <;> cases Unicode.isDigit c <;> cases r.all (· < 128) <;> cases r.all Unicode.isDigit <;> rfl
  rw [← key]
  rw [show decide ((tl x).length > 0) = decide (1 ≤ (tl x).length) from rfl]
  cases (tl x).all (· < 128) <;> cases (tl x).all Unicode.isDigit <;> cases decide (1 ≤ (tl x).length) <;> rfl
/-! ### slices -/
theorem cut_from (z : Str) (k : Nat) : tl (cutS z (some (k : Int)) none) = (tl z).drop k := by
  show (((z.cps.toList.drop (HT.sIx z.length 0 (some (k : Int)))).take (HT.sIx z.length z.length none - HT.sIx z.length 0 (some (k : Int)))).toArray).toList = _
  have hx : z.length = z.cps.toList.length := by show z.cps.size = z.cps.toList.length; rw [Array.length_toList]
  rw [List.toList_toArray, HT.sIx_nat, HT.sIx_none, hx]
  by_cases h : k ≤ z.cps.toList.length
  · rw [Nat.min_eq_left h, List.take_of_length_le (by rw [List.length_drop]; omega)]
  · rw [Nat.min_eq_right (by omega), List.drop_of_length_le (Nat.le_refl _), List.drop_of_length_le (show z.cps.toList.length ≤ k by omega), List.take_nil]
theorem cut_to (z : Str) (k : Nat) : tl (cutS z none (some (k : Int))) = (tl z).take k := by
  show (((z.cps.toList.drop (HT.sIx z.length 0 none)).take (HT.sIx z.length z.length (some (k : Int)) - HT.sIx z.length 0 none)).toArray).toList = _
  have hx : z.length = z.cps.toList.length := by show z.cps.size = z.cps.toList.length; rw [Array.length_toList]
  rw [List.toList_toArray, HT.sIx_nat, HT.sIx_none, hx, List.drop_zero, Nat.sub_zero]
  by_cases h : k ≤ z.cps.toList.length
  · rw [Nat.min_eq_left h]
  · rw [Nat.min_eq_right (by omega), List.take_of_length_le (Nat.le_refl _), List.take_of_length_le (show z.cps.toList.length ≤ k by omega)]
theorem ext {x y : Str} (h : tl x = tl y) : x = y := TL.ext_tl h
end Tx

namespace R0
open PySem PySem.Spec PyProof.Rows L2 Hb St Sq Ow En Zp RZ Rd Xb Da Tx
def vI : Option Int → V
  | none => .non
  | some i => .int i
def spRdInt : Sp := fun vs H Q _ => ∃ x : Str, vs = [.str x] ∧ x.length ≤ 10000 ∧ Q (vI (wpart (tl x))) H
theorem figs_of (x : Str) : tl (if Txt.startswith x (c1 45) = true then cutS x (some 1) none else x) = figs (tl x) := by
  by_cases h : Txt.startswith x (c1 45) = true
  · rw [if_pos h]
    obtain ⟨r, e⟩ := (starts1 x 45).mp h
    have z := cut_from x 1
    show tl (cutS x (some ((1 : Nat) : Int)) none) = _
    rw [z, e]
    rfl
  · rw [if_neg h]
    unfold figs
    split
    · next r e => exact absurd ((starts1 x 45).mpr ⟨r, e⟩) h
    · rfl
theorem str_eq (x : Str) (c : Nat) : decide (V.str x = V.str (c1 c)) = decide (tl x = [c]) := by
  by_cases h : tl x = [c]
  · rw [decide_eq_true h, decide_eq_true (show V.str x = V.str (c1 c) from congrArg V.str (ext h))]
  · rw [decide_eq_false h, decide_eq_false (fun z => h (by rw [V.str.inj z]))]
theorem starts_head (x : Str) (c : Nat) : Txt.startswith x (c1 c) = decide ((tl x).head? = some c) := by
  by_cases h : Txt.startswith x (c1 c) = true
  · obtain ⟨r, e⟩ := (starts1 x c).mp h
    rw [h, e]
    exact (decide_eq_true rfl).symm
  · rw [Bool.eq_false_iff.mpr h]
    refine (decide_eq_false fun z => h ((starts1 x c).mpr ?_)).symm
    cases e : tl x with
    | nil => rw [e] at z; cases z
    | cons a r =>
      rw [e] at z
      have : a = c := Option.some.inj z
      exact ⟨r, by rw [this]⟩
section
variable {P : Program} {w : World} {K : PySem.W.Frag} {mg : Str → Option Value} {base : Heap}
/-! ### read_integer -/
abbrev s_read_integer : Stmt := top 13
theorem sc_read_integer : FnScope ["word", "figures"] ["word"] (defScope s_read_integer) := ⟨rfl, rfl, rfl, by decide +kernel, rfl, by decide +kernel, by decide +kernel⟩
theorem ok_rdint {f : Addr} {fd : FuncData} (F : Fun K "read_integer" "read_integer" s_read_integer f fd) {tk : Tok} (g_FIGURES_values : mg "FIGURES_values" = some (.int 9 tk)) (n_int : mg "int" = none) (n_len : mg "len" = none) : FnOk P w K mg base CX0 1 f fd ["word"] spRdInt := by
  refine F.ok sc_read_integer (fun vs H Q E h => ?_) (fun cdv A outer s H vs Q E hr h => ?_)
  · obtain ⟨_, rfl, _⟩ := h
    rfl
  · obtain ⟨x, rfl, hx, q⟩ := h
    refine ⟨_, (Evl.pss_cut (ps_set (i := 1) sc_read_integer.nd rfl (Or.inl rfl) (pe_ifExp (pt_val (pe_bm PySem.F.plainAttrs_str PySem.F.slot_str_startswith PySem.F.type_str_startswith mt_startswith (pv 0) (pa_cons pe_str pa_nil))) (pe_slice sl_str (pv 0) (po_some pe_int) po_none) (pv 0)))
    (Evl.pss_cut (ps_if (PW.pt (pw_or (pt_cmpR op_gt (pe_callB call_len_str (by rfl) n_len PySem.boot_len (pa_cons (pv 1) pa_nil)) (pe_glob (v := .int 9) rfl g_FIGURES_values ⟨_, rfl⟩) (nomark _)) (pw_or (pt_not (pt_val (pe_bm0 PySem.F.plainAttrs_str PySem.F.slot_str_isascii PySem.F.type_str_isascii mt_isascii (pv 1)))) (pw_or1 (pt_not (pt_val (pe_bm0 PySem.F.plainAttrs_str PySem.F.slot_str_isdigit PySem.F.type_str_isdigit mt_isdigit (pv 1)))))))) (pss_one (ps_ret pe_non)) pss_nil)
    (pss_cons (ps_if (PW.pt (pw_and (pt_val (pe_bm PySem.F.plainAttrs_str PySem.F.slot_str_startswith PySem.F.type_str_startswith mt_startswith (pv 1) (pa_cons pe_str pa_nil))) (pw_and1 (pt_cmpR op_ne (pv 0) pe_str (nomark _))))) (pss_one (ps_ret pe_non)) pss_nil)
    (pss_one (ps_ret (pe_callTy call_int_str (by rfl) n_int (by decide +kernel) (pa_cons (pv 0) pa_nil))))))), ?_⟩
    have hxl : x.length = (tl x).length := by show x.cps.size = x.cps.toList.length; rw [Array.length_toList]
    have ef := figs_of x
    have s45 : Str.ofString "-" = c1 45 := by rfl
    have s48 : Str.ofString "0" = c1 48 := by rfl
    refine ⟨fun σ H' => ∃ y : Str, σ = [some (.str x), some (.str y)] ∧ H' = H ∧ tl y = figs (tl x) ∧ y.length ≤ 10000, ?_, ?_⟩
    · refine ⟨_, rfl, rfl, x, Str.ofString "-", rfl, rfl, _, rfl, ?_⟩
      rw [s45]
      cases e : Txt.startswith x (c1 45) with
      | true =>
        rw [e, if_pos rfl] at ef
        refine iteT ⟨_, rfl, 1, rfl, x, rfl, Nat.le_trans hx (by decide), cutS x (some 1) none, rfl, rfl, ef, Nat.le_trans (cutS_length x (some 1) none) hx⟩
      | false =>
        rw [e, if_neg Bool.false_ne_true] at ef
        exact iteF ⟨_, rfl, x, rfl, rfl, ef, hx⟩
    · rintro σ H' ⟨y, rfl, rfl, ey, hy⟩
      have hyl : y.length = (figs (tl x)).length := by rw [← ey]; show y.cps.size = y.cps.toList.length; rw [Array.length_toList]
      have ad := asc_dig y
      rw [ey] at ad
      -- what is not ok hands back None
      have no : okW (tl x) = false → Q .non H' := fun z => by
        have e : wpart (tl x) = none := by unfold wpart; rw [z]; rfl
        rw [e] at q
        exact q
      have bad : (decide (1 ≤ (figs (tl x)).length) && (figs (tl x)).all isD) = false → okW (tl x) = false := fun z => by
        unfold okW
        cases h1 : decide (1 ≤ (figs (tl x)).length) with
        | false => rfl
        | true =>
          rw [h1, Bool.true_and] at z
          rw [z, Bool.false_and, Bool.and_false, Bool.and_false]
      refine ⟨fun σ H2 => σ = [some (.str x), some (.str y)] ∧ H2 = H' ∧ (figs (tl x)).length ≤ 9 ∧ (decide (1 ≤ (figs (tl x)).length) && (figs (tl x)).all isD) = true, ?_, ?_⟩
      · refine ⟨_, rfl, y, rfl, Nat.le_trans hy (by decide), _, _, rfl, rfl, _, rfl, ?_⟩
        refine iteD (fun c => ?_) (fun c => ?_)
        · refine iteT (no ?_)
          unfold okW
          rw [decide_eq_false (show ¬ (figs (tl x)).length ≤ 9 by omega)]
          cases decide (1 ≤ (figs (tl x)).length) <;> rfl
        · refine ⟨_, rfl, rfl, y, rfl, rfl, trivial, _, rfl, ?_⟩
          cases e1 : Txt.isascii y with
          | false =>
            rw [e1, Bool.false_and] at ad
            exact iteT (iteT (no (bad ad.symm)))
          | true =>
            refine iteF ⟨_, rfl, rfl, y, rfl, rfl, trivial, _, rfl, ?_⟩
            cases e2 : Txt.isdigit y with
            | false =>
              rw [e1, e2] at ad
              exact iteT (no (bad ad.symm))
            | true =>
              rw [e1, e2] at ad
              exact iteF ⟨rfl, rfl, by omega, ad.symm⟩
      · rintro σ H2 ⟨rfl, rfl, h9, hd⟩
        rw [Bool.and_eq_true, decide_eq_true_eq] at hd
        have hs : Txt.startswith y (c1 48) = decide ((figs (tl x)).head? = some 48) := by rw [starts_head, ey]
        have okx : okW (tl x) = !(decide ((figs (tl x)).head? = some 48) && !decide (tl x = [48])) := by
          unfold okW
          rw [decide_eq_true hd.1, decide_eq_true h9, hd.2]
          rfl
        have yes : okW (tl x) = true → tRet (tCB (fun xs H Q => ∃ a n, xs = [V.str a] ∧ intText? a = some n ∧ a.length ≤ 640 ∧ Q (V.int n) H) (tCons (tVar 0) tNil)) { nx := fun _ H' => Q .non H', rt := Q } [some (.str x), some (.str y)] H2 := fun z => by
          obtain ⟨i1, i2⟩ := int_word z
          refine ⟨_, rfl, x, _, rfl, i1, i2, ?_⟩
          have e : wpart (tl x) = some (valW (tl x)) := by unfold wpart; rw [if_pos z]
          rw [e] at q
          exact q
        refine ⟨_, rfl, rfl, y, Str.ofString "0", rfl, rfl, _, rfl, ?_⟩
        rw [s48, hs]
        cases e1 : decide ((figs (tl x)).head? = some 48) with
        | false =>
          rw [e1] at okx
          exact iteF (iteF (yes okx))
        | true =>
          refine iteT ⟨_, rfl, rfl, _, rfl, ?_⟩
          show if (!decide (V.str x = V.str (Str.ofString "0"))) = true then _ else _
          rw [s48, str_eq]
          rw [e1] at okx
          cases e2 : decide (tl x = [48]) with
          | true =>
            rw [e2] at okx
            exact iteF (yes okx)
          | false =>
            rw [e2] at okx
            exact iteT (no okx)

end
end R0

/-! a loop over a walk, within a comprehension: any body -/
namespace Wa
open PySem PySem.Spec PyProof.Rows L2 Hb St Sq
theorem wk_go {J : It} {a : Addr} {S : Hp → Prop} {xs : List V} (W : Wk J a S xs) {B : (Hp → Prop) → V → Hp → Prop} {Qd : Hp → Prop} {H0 : Hp} (M : Nat → Hp → Prop) (h0 : M 0 H0) (hk : ∀ i H, M i H → S H) (hs : ∀ i x H, xs[i]? = some x → M i H → B (M (i + 1)) x H) (hd : ∀ H, M xs.length H → Qd H) :
    ∃ W : Nat → Nat → Hp → Prop, (∃ m, W 0 m H0) ∧ ∀ i m H, W i m H → (J.stop i H ∧ Qd H) ∨ (J.go i H ∧ ∃ Nx : Hp → Prop, (∀ H', Nx H' → ∃ m', m' < m ∧ W (i + 1) m' H') ∧ ∀ x H', J.yld i H x H' → B Nx x H') := by
  refine ⟨fun i m H => m + i = xs.length ∧ M i H, ⟨xs.length, rfl, h0⟩, fun i m H ⟨e, p⟩ => ?_⟩
  cases m with
  | zero =>
    obtain rfl : i = xs.length := by omega
    exact .inl ⟨W.stop H (hk _ _ p), hd H p⟩
  | succ m =>
    refine .inr ⟨W.go i H (by omega) (hk _ _ p), M (i + 1), fun H' p' => ⟨m, Nat.lt_succ_self m, by omega, p'⟩, fun v H' y => ?_⟩
    obtain ⟨rfl, ev⟩ := W.yld i H v H' (by omega) (hk _ _ p) y
    exact hs i v H' ev p
end Wa

namespace R0
open PySem PySem.Spec PyProof.Rows L2 Hb St Sq Ow En Zp RZ Rd Xb Da L2 Wa
/-! ### comprehensions whose items are lists -/
section
variable {α : Type} {H1 : Hp} {D : Addr} {ds : List α} {keep : α → Bool} {Rel : Hp → V → α → Prop} {i : Nat} {H : Hp}
theorem mfk_yes (m : MF H1 D ds keep Rel i H) {H' : Hp} {d : α} {y : V} (hd : H1 D = none) (mono : ∀ H H' y d, Kept D H H' → Rel H y d → Rel H' y d) (hi : ds[i]? = some d) (hl : ds.length ≤ 100000) (s : Same H H') (k : keep d = true) (r : Rel H' y d) :
    ∃ acc, H' D = some (.lst acc) ∧ acc.length < sizeLine ∧ MF H1 D ds keep Rel (i + 1) (upd H' D (.lst (acc ++ [y]))) := by
  obtain ⟨s1, ys, e, a⟩ := m
  have e' := s _ _ e
  have kp : Kept D H' (upd H' D (.lst (ys ++ [y]))) := kept_upd
  refine ⟨ys, e', ?_, fun b o eb => ?_, ys ++ [y], upd_same, ?_⟩
  · have := a.len
    have h2 := List.length_filter_le keep (ds.take i)
    have h3 : (ds.take i).length ≤ ds.length := by rw [List.length_take]; exact Nat.min_le_right _ _
    rw [sizeLine_eq]; omega
  · rw [upd_ne (ne_of_none eb hd)]; exact s b o (s1 b o eb)
  · rw [List.take_add_one, hi, List.filter_append]
    show All2 _ _ (_ ++ [d].filter keep)
    rw [List.filter_cons_of_pos k]
    exact (a.imp fun _ _ q => mono _ _ _ _ ((Hb.Same.kept s).trans kp) q).app (.cons (mono _ _ _ _ kp r) .nil)
end
def rJoinK (K : PySem.W.Frag) : V → List V → Hp → VK → Prop := fun x xs H Q => ∃ a p, ∃ ys : List Str, x = .str a ∧ xs = [.ref p] ∧ (SqL K H p (ys.map V.str) ∨ SqT K H p (ys.map V.str)) ∧ (ys.map (·.length)).sum + ys.length * a.length ≤ 16777216 ∧ Q (.str (Txt.join a ys)) H
theorem pe_joinK {X : Cx} {o e : Expr} {to te : TE} {apos pos : Pos} (K : PySem.W.Frag) (hK : X.K = K) (ho : PE X o to) (he : PE X e te) (hs : starEach [e] X.env = [(false, eval e X.env)] := by rfl) (hbase : attributeBase o "join" X.env (eval o X.env) = eval o X.env := by rfl) (hline : (apos.endLine == pos.line) = true := by rfl) :
    PE X (.Call (.Attribute o "join" apos) [e] [] pos) (tM1 (rJoinK K) to te) := by
  subst hK
  exact pe_join ho he hs hbase hline
theorem all2_mapR {α β γ : Type} {R : α → γ → Prop} {f : β → γ} : ∀ {xs : List α} {l : List β}, All2 (fun v a => R v (f a)) xs l → All2 R xs (l.map f)
  | _, _, .nil => .nil
  | _, _, .cons h t => .cons h (all2_mapR t)
/-- a list of texts, tracked; another than D -/
def LsAt (H : Hp) (v : V) (l : List Str) : Prop := ∃ b, v = .ref b ∧ H b = some (.lst (l.map V.str))
def LsNe (D : Addr) (H : Hp) (v : V) (l : List Str) : Prop := ∃ b, v = .ref b ∧ b ≠ D ∧ H b = some (.lst (l.map V.str))
theorem lsNe_mono {D : Addr} {H H' : Hp} {v : V} {l : List Str} (k : Kept D H H') (n : LsNe D H v l) : LsNe D H' v l := let ⟨b, e, n, h⟩ := n; ⟨b, e, n, k _ _ h n⟩
/-! ### may_follow -/
def wds : List Str := ["room", "gong", "call"]
def mayB (last word : Str) : Bool := decide (word ∈ wds) && decide (wds.idxOf last ≤ wds.idxOf word)
theorem idx_at {x : Str} (hx : x ∈ wds) : ∃ j z, (wds.map V.str)[j]? = some z ∧ eqV z (.str x) = true ∧ (∀ m z', m < j → (wds.map V.str)[m]? = some z' → eqV z' (.str x) = false) ∧ j = wds.idxOf x := by
  have hm : x = "room" ∨ x = "gong" ∨ x = "call" := by simpa [wds] using hx
  rcases hm with rfl | rfl | rfl
  · exact ⟨0, _, rfl, by decide +kernel, fun m z hm => absurd hm (by omega), by decide +kernel⟩
  · exact ⟨1, _, rfl, by decide +kernel, fun m z hm hz => by
      obtain rfl : m = 0 := by omega
      cases hz
      decide +kernel, by decide +kernel⟩
  · exact ⟨2, _, rfl, by decide +kernel, fun m z hm hz => by
      have : m = 0 ∨ m = 1 := by omega
      rcases this with rfl | rfl <;> cases hz <;> decide +kernel, by decide +kernel⟩
theorem wds_flat : (wds.map V.str).all flatV = true := flat_strs wds
/-! ### pieces of texts -/
theorem spl_len (S : List Nat) : ∀ (l : List Nat) (k : Nat) (acc p : List Nat), p ∈ TL.spl S k acc l → p.length ≤ acc.length + l.length
  | [], k, acc, p, h => by
    rw [TL.spl_nil] at h
    rw [List.mem_singleton.mp h]; simp
  | c :: r, 0, acc, p, h => by
    cases e : TL.pre S (c :: r) with
    | true =>
      rw [TL.spl_hit e] at h
      rcases List.mem_cons.mp h with z | z
      · rw [z]; omega
      · have := spl_len S r _ _ p z
        simp only [List.length_nil, List.length_cons] at this ⊢; omega
    | false =>
      rw [TL.spl_miss e] at h
      have := spl_len S r _ _ p h
      simp only [List.length_append, List.length_cons, List.length_nil] at this ⊢; omega
  | c :: r, k + 1, acc, p, h => by
    have := spl_len S r k acc p h
    simp only [List.length_cons]; omega
theorem par_len (S : List Nat) : ∀ (l acc a b : List Nat), TL.par S acc l = some (a, b) → a.length ≤ acc.length + l.length ∧ b.length ≤ l.length
  | [], acc, a, b, h => by cases h
  | c :: r, acc, a, b, h => by
    cases e : TL.pre S (c :: r) with
    | true =>
      rw [TL.par_hit e] at h
      injection h with h
      injection h with h1 h2
      rw [← h1, ← h2, List.length_drop]; omega
    | false =>
      rw [TL.par_miss e] at h
      have := par_len S r _ a b h
      simp only [List.length_append, List.length_cons, List.length_nil] at this ⊢; omega
theorem piece_len {x y p : Str} (hy : TL.tl y ≠ []) (hk : y.cps.all (· < 256) = true) (h : p ∈ Txt.split x y) : p.length ≤ x.length := by
  have e := TL.split_spl x y hy (TL.kind_ok hk)
  have := spl_len (TL.tl y) (TL.tl x) 0 [] (TL.tl p) (by rw [← e]; exact List.mem_map.mpr ⟨p, h, rfl⟩)
  rw [TL.len_tl, TL.len_tl]
  simpa using this
theorem part_len {x y : Str} (hy : TL.tl y ≠ []) : (Txt.partition x y).1.length ≤ x.length ∧ (Txt.partition x y).2.2.length ≤ x.length ∧ (Txt.partition x y).2.1.length ≤ y.length := by
  rw [TL.partition_par x y hy]
  cases e : TL.par (TL.tl y) [] (TL.tl x) with
  | none => exact ⟨Nat.le_refl _, Nat.zero_le _, Nat.zero_le _⟩
  | some p =>
    obtain ⟨a, b⟩ := p
    have := par_len _ _ _ _ _ e
    refine ⟨?_, ?_, Nat.le_refl _⟩
    · rw [TL.len_tl, TL.len_tl x]
      show a.length ≤ _
      simpa using this.1
    · rw [TL.len_tl, TL.len_tl x]
      exact this.2
def sp : Str := Str.ofString " "
def cm : Str := Str.ofString ", "
theorem sp_tl : TL.tl sp = [32] := by rfl
theorem cm_tl : TL.tl cm = [44, 32] := by rfl
theorem sp_ne : TL.tl sp ≠ [] := by rw [sp_tl]; simp
theorem cm_ne : TL.tl cm ≠ [] := by rw [cm_tl]; simp
theorem sp_256 : sp.cps.all (· < 256) = true := by decide +kernel
theorem cm_256 : cm.cps.all (· < 256) = true := by decide +kernel
section
variable {P : Program} {w : World} {K : PySem.W.Frag} {mg : Str → Option Value} {base : Heap}
abbrev s_may_follow : Stmt := top 23
theorem sc_may_follow : FnScope ["last", "word", "words"] ["last", "word"] (defScope s_may_follow) := ⟨rfl, rfl, rfl, by decide +kernel, rfl, by decide +kernel, by decide +kernel⟩
def spMay : Sp := fun vs H Q _ => ∃ last word : Str, vs = [.str last, .str word] ∧ last ∈ wds ∧ ∀ H', Same H H' → Q (.bl (mayB last word)) H'
theorem ok_may {f : Addr} {fd : FuncData} (F : Fun K "may_follow" "may_follow" s_may_follow f fd)  : FnOk P w K mg base CX0 1 f fd ["last", "word"] spMay := by
  refine F.ok sc_may_follow (fun vs H Q E h => ?_) (fun cdv A outer s H vs Q E hr h => ?_)
  · obtain ⟨_, _, rfl, _⟩ := h
    rfl
  · obtain ⟨last, word, rfl, hl, q⟩ := h
    refine ⟨_, (pss_cons (ps_set (i := 2) sc_may_follow.nd rfl (Or.inl rfl) (pe_tupF (pa_cons pe_str (pa_cons pe_str (pa_cons pe_str pa_nil)))))
    (pss_one (ps_ret (pe_and (pe_cmpR op_in_seq (pv 1) (pv 2) rfl) (pe_one (pe_cmpR op_le (pe_bmT PySem.F.plainAttrs_tuple PySem.F.slot_tuple_index PySem.F.type_tuple_index mt_tindex (pv 2) (pa_cons (pv 0) pa_nil)) (pe_bmT PySem.F.plainAttrs_tuple PySem.F.slot_tuple_index PySem.F.type_tuple_index mt_tindex (pv 2) (pa_cons (pv 1) pa_nil)) (nomark _))))))), ?_⟩
    refine ⟨by show 3 ≤ sizeLine; decide, fun p o hp ho => ?_⟩
    have s1 := same_new hp (.frz o (.tup [V.str (Str.ofString "room"), .str (Str.ofString "gong"), .str (Str.ofString "call")]))
    have ep : upd H p (.frz o (.tup [V.str (Str.ofString "room"), .str (Str.ofString "gong"), .str (Str.ofString "call")])) p = some (.frz o (.tup (wds.map V.str))) := upd_same
    generalize upd H p (.frz o (.tup [V.str (Str.ofString "room"), .str (Str.ofString "gong"), .str (Str.ofString "call")])) = H1 at s1 ep ⊢
    have tz : TupZ H1 p (wds.map V.str) := ⟨o, ho, ep⟩
    have q := q _ s1
    unfold mayB at q
    refine ⟨_, rfl, _, rfl, in_strs (.inr tz.sq) ⟨_, rfl, ?_⟩⟩
    by_cases hw : word ∈ wds
    · rw [decide_eq_true hw, Bool.true_and] at q
      rw [decide_eq_true hw]
      obtain ⟨j1, z1, a1, b1, c1, e1⟩ := idx_at hl
      obtain ⟨j2, z2, a2, b2, c2, e2⟩ := idx_at hw
      refine iteT ⟨_, rfl, p, _, rfl, tz, _, rfl, p, _, .str last, j1, z1, rfl, rfl, tz.sq, rfl, wds_flat, a1, b1, c1, _, rfl, p, _, rfl, tz, _, rfl, p, _, .str word, j2, z2, rfl, rfl, tz.sq, rfl, wds_flat, a2, b2, c2, _, _, rfl, rfl, ?_⟩
      rw [e1, e2]
      have e : decide (((wds.idxOf last : Nat) : Int) ≤ ((wds.idxOf word : Nat) : Int)) = decide (wds.idxOf last ≤ wds.idxOf word) := decide_eq_decide.mpr (by omega)
      show Q (.bl (decide (((wds.idxOf last : Nat) : Int) ≤ ((wds.idxOf word : Nat) : Int)))) H1
      rw [e]
      exact q
    · rw [decide_eq_false hw, Bool.false_and] at q
      rw [decide_eq_false hw]
      exact iteF q
/-! ### read_room -/
abbrev s_read_room : Stmt := top 24
theorem sc_read_room : FnScope ["text", "name", "blank", "rest", "lots", "lot", "bell"] ["text"] (defScope s_read_room) := ⟨rfl, rfl, rfl, by decide +kernel, rfl, by decide +kernel, by decide +kernel⟩
theorem str_at {ns : List Str} {i : Nat} {y : V} (ey : (ns.map V.str)[i]? = some y) : ∃ x, ns[i]? = some x ∧ y = .str x := by
  rw [List.getElem?_map] at ey
  cases c : ns[i]? with
  | none => rw [c] at ey; cases ey
  | some x => rw [c] at ey; exact ⟨x, rfl, (Option.some.inj ey).symm⟩
def rdLots (t : Str) : List Lot := if (Txt.partition t sp).2.1.length ≠ 0 then (Txt.split (Txt.partition t sp).2.2 cm).map fun l => Txt.split l sp else []
def rdRoom (t : Str) : Option Rm := if nmB (Txt.partition t sp).1 = true ∧ ((rdLots t).all fun l => l.all nmB) = true then some ((Txt.partition t sp).1, rdLots t) else none
def lsD (l : List Str) : PyData := .list (l.map .str)
def spRdRoom (K : PySem.W.Frag) : Sp := fun vs H Q _ => ∃ (t : Str), vs = [.str t] ∧ t.length ≤ 900 ∧ (∀ r, rdRoom t = some r → ∀ v H', Same H H' → Dp K H' v (rmD r) → Q v H') ∧ (rdRoom t = none → ∀ H', Same H H' → Q .non H')
theorem ok_rdroom {f : Addr} {fd : FuncData} (F : Fun K "read_room" "read_room" s_read_room f fd) (C_is_name : Cl P w K mg base "is_name" ["value"] [] 1 (spIsName K)) (n_all : mg "all" = none) (n_tuple : mg "tuple" = none) : FnOk P w K mg base CX0 2 f fd ["text"] (spRdRoom K) := by
  refine F.ok sc_read_room (fun vs H Q E h => ?_) (fun cdv A outer s H vs Q E hr h => ?_)
  · obtain ⟨_, rfl, _⟩ := h
    rfl
  · obtain ⟨t, rfl, lt, q, qn⟩ := h
    refine ⟨_, (pss_cons (ps_asg (pe_partition (pv 0) pe_str) (pg_tup rfl (pgs_cons (pg_name (i := 1) sc_read_room.nd rfl (Or.inl rfl)) (pgs_cons (pg_name (i := 2) sc_read_room.nd rfl (Or.inl rfl)) (pgs_cons (pg_name (i := 3) sc_read_room.nd rfl (Or.inl rfl)) pgs_nil)))))
    (Evl.pss_cut (ps_set (i := 4) sc_read_room.nd rfl (Or.inl rfl) (pe_ifExp (pt_truth (pv 2) (by intro _; rfl)) (pe_lc (own := [("lot", 5)]) (g := gName 5) rfl sc_read_room.nd (pi_seq (pe_split (pv 3) pe_str)) (blkOk_by (N := ["text", "name", "blank", "rest", "lots", "lot", "bell"]) (sc := defScope s_read_room) (by decide +kernel)) (fun _ _ _ _ _ => pg_name (i := 5) sc_read_room.nd rfl (Or.inl rfl)) (fun _ _ _ _ _ => pts_nil) (fun _ _ _ _ _ => pe_split (pv 5) pe_str)) (pe_lst pa_nil)))
    (Evl.pss_cut (ps_if (PW.pt (pw_or (pt_not (pt_val (pe_use C_is_name (hr.mono (by decide)) rfl (pa_cons (pv 1) pa_nil)))) (pw_or1 (pt_not (pt_val (pe_callB (cr_all rfl) (by rfl) n_all (by decide +kernel) (pa_cons (pe_lc2 (own := [("lot", 5), ("bell", 6)]) (vs1 := [6]) (g := gName 5) (g1 := gName 6) (wi1 := iSeq K (tVar 5)) rfl sc_read_room.nd (pi_seq (pv 4)) (blkOk_by (N := ["text", "name", "blank", "rest", "lots", "lot", "bell"]) (sc := defScope s_read_room) (by decide +kernel)) (by decide) (fun _ _ _ _ _ => pg_name (i := 5) sc_read_room.nd rfl (Or.inl rfl)) (fun _ _ _ _ _ => pts_nil) (fun _ _ _ _ _ => by exact pi_seq (pv 5)) (fun _ _ _ _ _ => pg_name (i := 6) sc_read_room.nd rfl (Or.inl rfl)) (fun _ _ _ _ _ => pts_nil) (fun _ _ _ _ _ => pe_use C_is_name (hr.mono (by decide)) rfl (pa_cons (pv 6) pa_nil))) pa_nil))))))) (pss_one (ps_ret pe_non)) pss_nil)
    (pss_one (ps_ret (pe_tup (pa_cons (pv 1) (pa_cons (pe_callTy call_tuple_of (by rfl) n_tuple (by decide +kernel) (pa_cons (pe_lc (own := [("lot", 5)]) (g := gName 5) rfl sc_read_room.nd (pi_seq (pv 4)) (blkOk_by (N := ["text", "name", "blank", "rest", "lots", "lot", "bell"]) (sc := defScope s_read_room) (by decide +kernel)) (fun _ _ _ _ _ => pg_name (i := 5) sc_read_room.nd rfl (Or.inl rfl)) (fun _ _ _ _ _ => pts_nil) (fun _ _ _ _ _ => pe_callTy (T := "tuple") (r := rTupE K) call_tupE (by rfl) n_tuple (by decide +kernel) (pa_cons (pv 5) pa_nil))) pa_nil)) pa_nil)))))))), ?_⟩
    obtain ⟨p1, p3, p2⟩ := part_len (x := t) sp_ne
    have l2 : sp.length = 1 := by rfl
    refine ⟨_, rfl, ⟨_, rfl⟩, t, sp, rfl, rfl, rfl, by rw [sizeLine_eq]; omega, fun u hu => ?_⟩
    have s1 := same_new hu (.tup [V.str (Txt.partition t sp).1, .str (Txt.partition t sp).2.1, .str (Txt.partition t sp).2.2])
    refine ⟨u, _, rfl, SqT.of upd_same, rfl, _, _, rfl, _, _, rfl, _, _, rfl, rfl, ?_⟩
    generalize upd H u (.tup [V.str (Txt.partition t sp).1, .str (Txt.partition t sp).2.1, .str (Txt.partition t sp).2.2]) = H1 at s1 ⊢
    refine ⟨fun σ H' => ∃ la as, σ = [some (.str t), some (.str (Txt.partition t sp).1), some (.str (Txt.partition t sp).2.1), some (.str (Txt.partition t sp).2.2), some (.ref la), none, none] ∧ Same H H' ∧ H' la = some (.lst as) ∧ All2 (LsAt H') as (rdLots t), ?_, ?_⟩
    · refine ⟨_, rfl, _, ⟨by rw [sizeLine_eq]; omega, rfl⟩, ?_⟩
      by_cases c : (Txt.partition t sp).2.1.length ≠ 0
      · have e1 : (((Txt.partition t sp).2.1.length : Int) != 0) = true := by simpa using c
        rw [e1]
        have er : rdLots t = (Txt.split (Txt.partition t sp).2.2 cm).map fun l => Txt.split l sp := if_pos c
        refine iteT ⟨_, rfl, ⟨_, rfl⟩, _, cm, rfl, rfl, rfl, by rw [sizeLine_eq]; omega, fun b hb => ?_⟩
        have s2 := same_new hb (.lst ((Txt.split (Txt.partition t sp).2.2 cm).map V.str))
        have eb : upd H1 b (.lst ((Txt.split (Txt.partition t sp).2.2 cm).map V.str)) b = some (.lst ((Txt.split (Txt.partition t sp).2.2 cm).map V.str)) := upd_same
        generalize upd H1 b (.lst ((Txt.split (Txt.partition t sp).2.2 cm).map V.str)) = H2 at s2 eb ⊢
        refine ⟨b, _, rfl, SqX.lst eb, fun J S W s0 D hD => ?_⟩
        have sl := PyProof.Rows.split_le (Txt.partition t sp).2.2 cm
        refine lc_mf (ds := Txt.split (Txt.partition t sp).2.2 cm) W (fun _ => true) (fun H y l => LsNe D H y (Txt.split l sp)) s0 hD (by rw [List.length_map]) (fun i x l H' ex el s m => ?_) (fun H' ys s e al => ?_)
        · obtain rfl := at_map ex el
          have ll := piece_len cm_ne cm_256 (at_mem el)
          refine ⟨rfl, _, rfl, ⟨_, rfl⟩, l, sp, rfl, rfl, rfl, by rw [sizeLine_eq]; omega, fun b2 hb2 => ?_⟩
          obtain ⟨ys, ey, _⟩ := m.acc
          exact mfk_yes m hD (fun _ _ _ _ k n => lsNe_mono k n) el (by omega) (same_new hb2 _) rfl ⟨b2, rfl, (ne_of_none ey hb2).symm, upd_same⟩
        · rw [Rd.filter_all] at al
          refine ⟨D, ys, rfl, (s1.trans s2).trans s, e, ?_⟩
          rw [er]
          exact all2_mapR (f := fun l => Txt.split l sp) (al.imp fun _ _ n => let ⟨b, e, _, h⟩ := n; ⟨b, e, h⟩)
      · have e1 : (((Txt.partition t sp).2.1.length : Int) != 0) = false := by simpa using c
        rw [e1]
        have er : rdLots t = [] := if_neg c
        refine iteF ⟨by show 0 ≤ sizeLine; decide, fun l hl => ⟨l, [], rfl, s1.trans (same_new hl _), upd_same, ?_⟩⟩
        rw [er]
        exact .nil
    rintro σ H2 ⟨la, as, rfl, s2, ela, al⟩
    have hla := SqL.of (K := K) ela
    have few : (rdLots t).length ≤ 902 ∧ ∀ l ∈ rdLots t, l.length ≤ 902 ∧ ∀ x ∈ l, x.length ≤ 900 := by
      unfold rdLots
      by_cases c : (Txt.partition t sp).2.1.length ≠ 0
      · rw [if_pos c]
        have sl := PyProof.Rows.split_le (Txt.partition t sp).2.2 cm
        refine ⟨by rw [List.length_map]; omega, fun l hl => ?_⟩
        obtain ⟨z, hz, rfl⟩ := List.mem_map.mp hl
        have h1 := piece_len cm_ne cm_256 hz
        have h2 := PyProof.Rows.split_le z sp
        exact ⟨by omega, fun x hx => by have := piece_len sp_ne sp_256 hx; omega⟩
      · rw [if_neg c]
        exact ⟨Nat.zero_le _, fun l hl => by cases hl⟩
    refine ⟨fun σ H' => σ = [some (.str t), some (.str (Txt.partition t sp).1), some (.str (Txt.partition t sp).2.1), some (.str (Txt.partition t sp).2.2), some (.ref la), none, none] ∧ Same H2 H' ∧ rdRoom t = some ((Txt.partition t sp).1, rdLots t), ?_, ?_⟩
    · refine ⟨_, rfl, _, .str (Txt.partition t sp).1, rfl, .str _, (show _ ≤ 1000 by omega), _, rfl, ?_⟩
      cases c1 : nmD (.str (Txt.partition t sp).1) with
      | false =>
        have c1 : nmB (Txt.partition t sp).1 = false := c1
        exact iteT (qn (by unfold rdRoom; rw [if_neg (by rw [c1]; simp)]) _ s2)
      | true =>
        have c1 : nmB (Txt.partition t sp).1 = true := c1
        refine iteF ⟨_, rfl, la, as, rfl, .inl hla, fun J S W z0 D hD => ?_⟩
        let M : List Bool → Hp → Prop := fun bs H' => Same H2 H' ∧ H' D = some (.lst (bs.map V.bl))
        have grow : ∀ {bs : List Bool} {b : Bool} {H' : Hp}, M bs H' → M (bs ++ [b]) (upd H' D (.lst (bs.map V.bl ++ [.bl b]))) := fun {bs b H'} m =>
          ⟨fun x o e => by rw [upd_ne (ne_of_none e hD)]; exact m.1 _ _ e, by rw [upd_same, List.map_append]; rfl⟩
        have lenF : ∀ n, (((rdLots t).take n).flatMap id).length ≤ 902 * 902 := fun n => by
          have h1 : ∀ (L : List Lot), (∀ l ∈ L, l.length ≤ 902) → (L.flatMap id).length ≤ L.length * 902 := fun L => by
            induction L with
            | nil => intro _; exact Nat.zero_le _
            | cons a L ih =>
              intro h
              have h2 := ih fun l hl => h l (List.mem_cons_of_mem _ hl)
              have h3 := h a List.mem_cons_self
              rw [List.flatMap_cons, List.length_append, List.length_cons]
              show a.length + _ ≤ _
              omega
          have h2 := h1 ((rdLots t).take n) fun l hl => (few.2 l (List.mem_of_mem_take hl)).1
          have h3 : ((rdLots t).take n).length ≤ 902 := Nat.le_trans (List.length_take_le' ..) few.1
          exact Nat.le_trans h2 (Nat.mul_le_mul_right 902 h3)
        refine wk_go W (fun i H' => M ((((rdLots t).take i).flatMap id).map nmB) H') ⟨same_new hD _, upd_same⟩ (fun i H' m => W.keep (fun o e => m.1 _ _ e) z0) (fun i x H' ex m => ?_) (fun H' m => ?_)
        · obtain ⟨l, el, b, rfl, hb2⟩ := al.get ex
          have hb := SqL.of (K := K) (m.1 _ _ hb2)
          have nb : b ≠ D := ne_of_none hb2 hD
          have tk : (rdLots t).take (i + 1) = (rdLots t).take i ++ [l] := by rw [List.take_add_one, el]; rfl
          have fl := few.2 l (at_mem el)
          refine ⟨rfl, _, rfl, b, _, rfl, .inl hb, fun J1 S1 W1 z1 => ?_⟩
          rw [tk, List.flatMap_append, List.map_append]
          have e1 : [l].flatMap id = l := by simp
          rw [e1]
          refine wk_go W1 (fun j G => M (((((rdLots t).take i).flatMap id).map nmB) ++ (l.take j).map nmB) G ∧ Kept D H' G) ⟨by rw [List.take_zero, List.map_nil, List.append_nil]; exact m, Kept.refl _ _⟩ (fun j G m2 => W1.keep (fun o e => m2.2 _ _ e nb) z1) (fun j y G ey m2 => ?_) (fun G m2 => ?_)
          · obtain ⟨x, ex2, rfl⟩ := str_at ey
            have fx := fl.2 x (at_mem ex2)
            have lf := lenF i
            have lt2 : (l.take j).length ≤ 902 := Nat.le_trans (List.length_take_le' ..) fl.1
            have tk2 : (l.take (j + 1)).map nmB = (l.take j).map nmB ++ [nmB x] := by rw [List.take_add_one, ex2, List.map_append]; rfl
            refine ⟨rfl, _, rfl, _, .str x, rfl, .str x, (show x.length ≤ 1000 by omega), _, m2.1.2, ?_, ?_, m2.2.trans kept_upd⟩
            · rw [List.length_map, List.length_append, List.length_map, List.length_map, sizeLine_eq]; omega
            · rw [tk2, ← List.append_assoc]
              exact grow m2.1
          · rw [List.length_map, List.take_of_length_le (Nat.le_refl _)] at m2
            exact m2.1
        · rw [al.len, List.take_of_length_le (Nat.le_refl _)] at m
          refine ⟨D, _, rfl, SqL.of m.2, _, rfl, ?_⟩
          have e1 : ((((rdLots t).flatMap id).map nmB).all id) = (rdLots t).all fun l => l.all nmB := by
            rw [List.all_map, List.all_flatMap]
            rfl
          rw [e1]
          cases c2 : (rdLots t).all fun l => l.all nmB with
          | true => exact iteF ⟨rfl, m.1, by unfold rdRoom; rw [if_pos ⟨c1, c2⟩]⟩
          | false => exact iteT (qn (by unfold rdRoom; rw [if_neg (by rw [c2]; simp)]) _ (s2.trans m.1))
    rintro σ H3 ⟨rfl, s3, ok⟩
    refine ⟨_, rfl, _, rfl, la, as, rfl, .inl (lstSame s3 hla), fun J S W z0 D hD => ?_⟩
    refine lc_mf (ds := rdLots t) W (fun _ => true) (fun H y l => ∃ b, y = .ref b ∧ SqT K H b (l.map V.str)) z0 hD al.len (fun i x l H' ex el s m => ?_) (fun H' ys s e al2 => ?_)
    · obtain ⟨l', el', b, rfl, hb⟩ := al.get ex
      obtain rfl : l' = l := Option.some.inj (el'.symm.trans el)
      refine ⟨rfl, _, rfl, b, _, rfl, .inl ⟨SqL.of ((s3.trans s) _ _ hb), fun l2 hl2 => ?_⟩⟩
      exact mf_yes m hD (fun _ _ _ _ f ⟨b, e, h⟩ => ⟨b, e, tupFix f h⟩) el (by have := few.1; omega) (same_new hl2 _) rfl ⟨l2, rfl, SqT.of upd_same⟩
    · rw [Rd.filter_all] at al2
      refine ⟨D, ys, rfl, .inl ⟨SqL.of e, fun l2 hl2 => ⟨by show 2 ≤ sizeLine; decide, fun v hv => ?_⟩⟩⟩
      have s5 := same_new hl2 (.tup ys)
      have s6 := same_new hv (.tup [V.str (Txt.partition t sp).1, .ref l2])
      refine q _ ok (.ref v) _ ((((s2.trans s3).trans s).trans s5).trans s6) (dp_tup2 (SqT.of upd_same) (.str _) (.tup (SqT.of (s6 _ _ upd_same)) (dpa_of (all2_mapR (al2.imp fun y l h => ?_)))))
      obtain ⟨b, rfl, h⟩ := h
      exact .tup (tupFix (Fix.of (s5.trans s6)) h) (dp_strs l)
end
end R0

/-! xs[::2] and xs[1::2] of a list of four -/
namespace Ev4
open PySem PySem.Spec PyProof.Rows L2 Hb
theorem pick_even (a b c d : Value) : slicePick #[a, b, c, d] none none (some 2) = #[a, c] := by
  unfold slicePick
  rw [show sliceRange (sliceBounds none none (some 2) #[a, b, c, d].size).1 (sliceBounds none none (some 2) #[a, b, c, d].size).2.1 (sliceBounds none none (some 2) #[a, b, c, d].size).2.2 = [0, 2] from by
    show sliceRange (sliceBounds none none (some 2) 4).1 (sliceBounds none none (some 2) 4).2.1 (sliceBounds none none (some 2) 4).2.2 = [0, 2]
    decide +kernel]
  rfl
theorem pick_odd (a b c d : Value) : slicePick #[a, b, c, d] (some 1) none (some 2) = #[b, d] := by
  unfold slicePick
  rw [show sliceRange (sliceBounds (some 1) none (some 2) #[a, b, c, d].size).1 (sliceBounds (some 1) none (some 2) #[a, b, c, d].size).2.1 (sliceBounds (some 1) none (some 2) #[a, b, c, d].size).2.2 = [1, 3] from by
    show sliceRange (sliceBounds (some 1) none (some 2) 4).1 (sliceBounds (some 1) none (some 2) 4).2.1 (sliceBounds (some 1) none (some 2) 4).2.2 = [1, 3]
    decide +kernel]
  rfl
def tFour (K : PySem.W.Frag) (te : TE) (g : V → V → V → V → List V) : TE := fun σ H Q => te σ H fun x H1 => ∃ a v0 v1 v2 v3, x = .ref a ∧ SqL K H1 a [v0, v1, v2, v3] ∧ ∀ p, H1 p = none → Q (.ref p) (upd H1 p (.lst (g v0 v1 v2 v3)))
theorem four_of {v0 v1 v2 v3 : V} {its : List Value} (r : Vals [v0, v1, v2, v3] its) : ∃ a b c d, its = [a, b, c, d] ∧ RelV v0 a ∧ RelV v1 b ∧ RelV v2 c ∧ RelV v3 d := by
  cases r with
  | cons r0 r =>
    cases r with
    | cons r1 r =>
      cases r with
      | cons r2 r =>
        cases r with
        | cons r3 r =>
          cases r
          exact ⟨_, _, _, _, rfl, r0, r1, r2, r3⟩
theorem pe_evn {X : Cx} {e st : Expr} {te ts : TE} {p3 pos : Pos} (K : PySem.W.Frag) (hK : X.K = K) (he : PE X e te) (hs : PE X st ts) (hN : ∀ σ H (Q : VK), Q (.int 2) H → ts σ H Q) :
    PE X (.Subscript e (.Slice none none (some st) p3) pos) (tFour K te fun a _ c _ => [a, c]) := by
  subst hK
  refine ⟨fun pins s σ H Q I h => Subscript_ (thn (he.run pins s σ H _ I h) fun v s1 ⟨x, H1, I1, r1, a, v0, v1, v2, v3, ex, hx, q⟩ => ?_)⟩
  subst ex; cases r1
  refine wpAny_Slice (thn (po_none.run pins s1 σ H1 (fun o H2 => o = none ∧ H2 = H1) I1 ⟨rfl, rfl⟩) fun vl s2 ⟨l, H2, I2, pl, el, e2⟩ => ?_)
  subst el e2
  refine thn (po_none.run pins s2 σ H2 (fun o H3 => o = none ∧ H3 = H2) I2 ⟨rfl, rfl⟩) fun vu s3 ⟨u, H3, I3, pu, eu, e3⟩ => ?_
  subst eu e3
  refine thn ((po_some hs).run pins s3 σ H3 (fun o H4 => o = some 2 ∧ H4 = H3) I3 (hN σ H3 _ ⟨2, rfl, rfl, rfl⟩)) fun vs s4 ⟨o, H4, I4, ps, eo, e4⟩ => ?_
  subst eo e4
  have I5 : Inv X pins σ H4 { s4 with heap := s4.heap.push { cls := .type "slice", data := .fields #[vl, vu, vs] } } := I4.kept (t' := s4.toks) fun b ob q => Heap.get?_push_of_some _ q
  obtain ⟨its, r, ht, hz⟩ := I5.list hx
  obtain ⟨w0, w1, w2, w3, rfl, r0, r1, r2, r3⟩ := four_of r
  show wpAny (model X.prog X.w) X.A (subscriptTail e (.Slice none none (some st) p3) (.ref a) (.ref s4.heap.objs.size)) (EP X pins σ Q) X.xe { s4 with heap := s4.heap.push { cls := .type "slice", data := .fields #[vl, vu, vs] } }
  refine tail_any (ops := [.ref a, .ref s4.heap.objs.size]) ht.isList.typeIs (PySem.slot_list_getitem.lookup) ?_ (by with_unfolding_all rfl)
  refine wpAny_getItem_list_slice ht.isList (Heap.IsSliceOf.new _ vl vu vs) pl pu ps (by decide) ?_ (by show 4 ≤ sizeLine; rw [sizeLine_eq]; decide)
  rw [show [w0, w1, w2, w3].toArray = #[w0, w1, w2, w3] from rfl, pick_even]
  exact ⟨.ref _, _, I5.laid (t' := s4.toks) (o := .lst [v0, v2]) (fun b ob q => Heap.get?_push_of_some _ q) (Nat.le_refl _) ⟨by rw [sizeLine_eq]; show 2 ≤ _; decide, _, 0, .cons r0 (.cons r2 .nil), Heap.get?_push_size _ rfl⟩, rfl, q _ (I5.hok.fresh (Nat.le_refl _))⟩
theorem pe_odd {X : Cx} {e lo st : Expr} {te tl ts : TE} {p3 pos : Pos} (K : PySem.W.Frag) (hK : X.K = K) (he : PE X e te) (hl : PE X lo tl) (hs : PE X st ts) (hL : ∀ σ H (Q : VK), Q (.int 1) H → tl σ H Q) (hN : ∀ σ H (Q : VK), Q (.int 2) H → ts σ H Q) :
    PE X (.Subscript e (.Slice (some lo) none (some st) p3) pos) (tFour K te fun _ b _ d => [b, d]) := by
  subst hK
  refine ⟨fun pins s σ H Q I h => Subscript_ (thn (he.run pins s σ H _ I h) fun v s1 ⟨x, H1, I1, r1, a, v0, v1, v2, v3, ex, hx, q⟩ => ?_)⟩
  subst ex; cases r1
  refine wpAny_Slice (thn ((po_some hl).run pins s1 σ H1 (fun o H2 => o = some 1 ∧ H2 = H1) I1 (hL σ H1 _ ⟨1, rfl, rfl, rfl⟩)) fun vl s2 ⟨l, H2, I2, pl, el, e2⟩ => ?_)
  subst el e2
  refine thn (po_none.run pins s2 σ H2 (fun o H3 => o = none ∧ H3 = H2) I2 ⟨rfl, rfl⟩) fun vu s3 ⟨u, H3, I3, pu, eu, e3⟩ => ?_
  subst eu e3
  refine thn ((po_some hs).run pins s3 σ H3 (fun o H4 => o = some 2 ∧ H4 = H3) I3 (hN σ H3 _ ⟨2, rfl, rfl, rfl⟩)) fun vs s4 ⟨o, H4, I4, ps, eo, e4⟩ => ?_
  subst eo e4
  have I5 : Inv X pins σ H4 { s4 with heap := s4.heap.push { cls := .type "slice", data := .fields #[vl, vu, vs] } } := I4.kept (t' := s4.toks) fun b ob q => Heap.get?_push_of_some _ q
  obtain ⟨its, r, ht, hz⟩ := I5.list hx
  obtain ⟨w0, w1, w2, w3, rfl, r0, r1, r2, r3⟩ := four_of r
  show wpAny (model X.prog X.w) X.A (subscriptTail e (.Slice (some lo) none (some st) p3) (.ref a) (.ref s4.heap.objs.size)) (EP X pins σ Q) X.xe { s4 with heap := s4.heap.push { cls := .type "slice", data := .fields #[vl, vu, vs] } }
  refine tail_any (ops := [.ref a, .ref s4.heap.objs.size]) ht.isList.typeIs (PySem.slot_list_getitem.lookup) ?_ (by with_unfolding_all rfl)
  refine wpAny_getItem_list_slice ht.isList (Heap.IsSliceOf.new _ vl vu vs) pl pu ps (by decide) ?_ (by show 4 ≤ sizeLine; rw [sizeLine_eq]; decide)
  rw [show [w0, w1, w2, w3].toArray = #[w0, w1, w2, w3] from rfl, pick_odd]
  exact ⟨.ref _, _, I5.laid (t' := s4.toks) (o := .lst [v1, v3]) (fun b ob q => Heap.get?_push_of_some _ q) (Nat.le_refl _) ⟨by rw [sizeLine_eq]; show 2 ≤ _; decide, _, 0, .cons r1 (.cons r3 .nil), Heap.get?_push_size _ rfl⟩, rfl, q _ (I5.hok.fresh (Nat.le_refl _))⟩
end Ev4

namespace R0
open PySem PySem.Spec PyProof.Rows L2 Hb St Sq Ow En Zp RZ Rd Xb Da Wa
/-! ### read_join -/
def optD : Option Int → PyData
  | none => .none
  | some i => .int i
theorem dp_vI {K : PySem.W.Frag} {H : Hp} : ∀ o : Option Int, Dp K H (vI o) (optD o)
  | none => .non
  | some i => .int i
def wI (x : Str) : Option Int := Tx.wpart (TL.tl x)
def rdJoin (t : Str) : Option Jn := match Txt.split t sp with
  | [a, b, c, d] => match wI b, wI d with
    | some i, some j => if nmB a = true ∧ nmB c = true ∧ 0 ≤ i ∧ 0 ≤ j ∧ b.length ≤ 4 ∧ d.length ≤ 4 then some ((a, i), (c, j)) else none
    | _, _ => none
  | _ => none
theorem rj_len {t : Str} (h : (Txt.split t sp).length ≠ 4) : rdJoin t = none := by
  unfold rdJoin
  match Txt.split t sp, h with
  | [], _ => rfl
  | [_], _ => rfl
  | [_, _], _ => rfl
  | [_, _, _], _ => rfl
  | _ :: _ :: _ :: _ :: _ :: _, _ => rfl
  | [a, b, c, d], h => exact absurd rfl h
theorem len4 {l : List Str} (h : l.length = 4) : ∃ a b c d, l = [a, b, c, d] := by
  match l, h with
  | [a, b, c, d], _ => exact ⟨a, b, c, d, rfl⟩
theorem rj_4 {t a b c d : Str} (h : Txt.split t sp = [a, b, c, d]) : rdJoin t = match wI b, wI d with
    | some i, some j => if nmB a = true ∧ nmB c = true ∧ 0 ≤ i ∧ 0 ≤ j ∧ b.length ≤ 4 ∧ d.length ≤ 4 then some ((a, i), (c, j)) else none
    | _, _ => none := by
  unfold rdJoin
  rw [h]
theorem rj_nm {t a b c d : Str} (h : Txt.split t sp = [a, b, c, d]) (n : (nmB a && (nmB c && true)) = false) : rdJoin t = none := by
  rw [rj_4 h]
  have : ¬ (nmB a = true ∧ nmB c = true) := fun ⟨z1, z2⟩ => by rw [z1, z2] at n; cases n
  cases wI b with
  | none => rfl
  | some i =>
    cases wI d with
    | none => rfl
    | some j => exact if_neg fun z => this ⟨z.1, z.2.1⟩
theorem rj_num {t a b c d : Str} (h : Txt.split t sp = [a, b, c, d]) (n : (numD (optD (wI b)) && (numD (optD (wI d)) && true)) = false) : rdJoin t = none := by
  rw [rj_4 h]
  cases eb : wI b with
  | none => rfl
  | some i =>
    cases ed : wI d with
    | none => rfl
    | some j =>
      rw [eb, ed] at n
      refine if_neg fun z => ?_
      have n : (decide (0 ≤ i) && (decide (0 ≤ j) && true)) = false := n
      rw [decide_eq_true z.2.2.1, decide_eq_true z.2.2.2.1] at n
      cases n
section
variable {P : Program} {w : World} {K : PySem.W.Frag} {mg : Str → Option Value} {base : Heap}
abbrev s_read_join : Stmt := top 25
theorem sc_read_join : FnScope ["text", "words", "names", "numbers", "word", "name", "number"] ["text"] (defScope s_read_join) := ⟨rfl, rfl, rfl, by decide +kernel, rfl, by decide +kernel, by decide +kernel⟩
def spRdJoin (K : PySem.W.Frag) : Sp := fun vs H Q _ => ∃ (t : Str), vs = [.str t] ∧ t.length ≤ 900 ∧ (∀ j, rdJoin t = some j → ∀ v H', Same H H' → Dp K H' v (jnD j) → Q v H') ∧ (rdJoin t = none → ∀ H', Same H H' → Q .non H')
theorem ok_rdjoin {f : Addr} {fd : FuncData} (F : Fun K "read_join" "read_join" s_read_join f fd) (C_is_name : Cl P w K mg base "is_name" ["value"] [] 1 (spIsName K)) (C_is_number : Cl P w K mg base "is_number" ["value"] [] 2 (spIsNum K)) (C_read_integer : Cl P w K mg base "read_integer" ["word"] [] 1 spRdInt) {tk : Tok} (g_FIGURES_rooms : mg "FIGURES_rooms" = some (.int 4 tk)) (n_all : mg "all" = none) (n_len : mg "len" = none) (n_max : mg "max" = none) : FnOk P w K mg base CX0 3 f fd ["text"] (spRdJoin K) := by
  refine F.ok sc_read_join (fun vs H Q E h => ?_) (fun cdv A outer s H vs Q E hr h => ?_)
  · obtain ⟨_, rfl, _⟩ := h
    rfl
  · obtain ⟨t, rfl, lt, q, qn⟩ := h
    refine ⟨_, (pss_cons (ps_set (i := 1) sc_read_join.nd rfl (Or.inl rfl) (pe_split (pv 0) pe_str))
    (Evl.pss_cut (ps_if (pt_cmpR op_ne (pe_callB call_len_seq (by rfl) n_len PySem.boot_len (pa_cons (pv 1) pa_nil)) pe_int (nomark _)) (pss_one (ps_ret pe_non)) pss_nil)
    (pss_cons (ps_set (i := 2) sc_read_join.nd rfl (Or.inl rfl) (Ev4.pe_evn K rfl (pv 1) pe_int (fun _ _ _ q => q)))
    (Evl.pss_cut (ps_setLc (i := 3) (own := [("word", 4)]) (g := gName 4) (by rfl) sc_read_join.nd rfl rfl (sw_true rfl rfl rfl (by decide +kernel)) (pi_seq (Ev4.pe_odd K rfl (pv 1) pe_int pe_int (fun _ _ _ q => q) (fun _ _ _ q => q))) (blkOk_by (N := ["text", "words", "names", "numbers", "word", "name", "number"]) (sc := defScope s_read_join) (by decide +kernel)) (fun _ _ _ _ _ => pg_name (i := 4) sc_read_join.nd rfl (Or.inl rfl)) (fun _ _ _ _ _ => pts_nil) (fun _ _ _ _ _ => pe_use C_read_integer (hr.mono (by decide)) rfl (pa_cons (pv 4) pa_nil)))
    (Evl.pss_cut (ps_if (PW.pt (pw_or (pt_not (pt_val (pe_callB (cr_all rfl) (by rfl) n_all (by decide +kernel) (pa_cons (pe_lc (own := [("name", 5)]) (g := gName 5) rfl sc_read_join.nd (pi_seq (pv 2)) (blkOk_by (N := ["text", "words", "names", "numbers", "word", "name", "number"]) (sc := defScope s_read_join) (by decide +kernel)) (fun _ _ _ _ _ => pg_name (i := 5) sc_read_join.nd rfl (Or.inl rfl)) (fun _ _ _ _ _ => pts_nil) (fun _ _ _ _ _ => pe_use C_is_name (hr.mono (by decide)) rfl (pa_cons (pv 5) pa_nil))) pa_nil)))) (pw_or1 (pt_not (pt_val (pe_callB (cr_all rfl) (by rfl) n_all (by decide +kernel) (pa_cons (pe_lc (own := [("number", 6)]) (g := gName 6) rfl sc_read_join.nd (pi_seq (pv 3)) (blkOk_by (N := ["text", "words", "names", "numbers", "word", "name", "number"]) (sc := defScope s_read_join) (by decide +kernel)) (fun _ _ _ _ _ => pg_name (i := 6) sc_read_join.nd rfl (Or.inl rfl)) (fun _ _ _ _ _ => pts_nil) (fun _ _ _ _ _ => pe_use C_is_number (hr.mono (by decide)) rfl (pa_cons (pv 6) pa_nil))) pa_nil))))))) (pss_one (ps_ret pe_non)) pss_nil)
    (Evl.pss_cut (ps_if (pt_cmpR op_gt (pe_callB (cr_max rfl) (by rfl) n_max (by decide +kernel) (pa_cons (pe_lc (own := [("word", 4)]) (g := gName 4) rfl sc_read_join.nd (pi_seq (Ev4.pe_odd K rfl (pv 1) pe_int pe_int (fun _ _ _ q => q) (fun _ _ _ q => q))) (blkOk_by (N := ["text", "words", "names", "numbers", "word", "name", "number"]) (sc := defScope s_read_join) (by decide +kernel)) (fun _ _ _ _ _ => pg_name (i := 4) sc_read_join.nd rfl (Or.inl rfl)) (fun _ _ _ _ _ => pts_nil) (fun _ _ _ _ _ => pe_callB call_len_str (by rfl) n_len PySem.boot_len (pa_cons (pv 4) pa_nil))) pa_nil)) (pe_glob (v := .int 4) rfl g_FIGURES_rooms ⟨_, rfl⟩) (nomark _)) (pss_one (ps_ret pe_non)) pss_nil)
    (pss_one (ps_ret (pe_tup (pa_cons (pe_tup (pa_cons (pe_ix ix_list (pv 2) pe_int (fun _ _ => rfl)) (pa_cons (pe_ix ix_list (pv 3) pe_int (fun _ _ => rfl)) pa_nil))) (pa_cons (pe_tup (pa_cons (pe_ix ix_list (pv 2) pe_int (fun _ _ => rfl)) (pa_cons (pe_ix ix_list (pv 3) pe_int (fun _ _ => rfl)) pa_nil))) pa_nil))))))))))), ?_⟩
    refine ⟨_, rfl, ⟨_, rfl⟩, t, sp, rfl, rfl, rfl, by rw [sizeLine_eq]; omega, fun b hb => ?_⟩
    have s1 := same_new hb (.lst ((Txt.split t sp).map V.str))
    have eb : upd H b (.lst ((Txt.split t sp).map V.str)) b = some (.lst ((Txt.split t sp).map V.str)) := upd_same
    generalize upd H b (.lst ((Txt.split t sp).map V.str)) = H1 at s1 eb ⊢
    refine ⟨fun σ H' => σ = [some (.str t), some (.ref b), none, none, none, none, none] ∧ H' = H1 ∧ (Txt.split t sp).length = 4, ?_, ?_⟩
    · refine ⟨_, rfl, b, _, rfl, .inl (SqL.of eb), rfl, _, rfl, ?_⟩
      rw [List.length_map]
      by_cases c : (Txt.split t sp).length = 4
      · rw [c]
        exact iteF ⟨rfl, rfl, rfl⟩
      · have e : (!decide (V.int ((Txt.split t sp).length : Nat) = V.int 4)) = true := by rw [decide_eq_false fun z => c (by injection z with z; omega)]; rfl
        show if (!decide (V.int ((Txt.split t sp).length : Nat) = V.int 4)) = true then _ else _
        rw [e]
        exact iteT (qn (rj_len c) _ s1)
    rintro σ H' ⟨rfl, rfl, c4⟩
    obtain ⟨a, n1, c, n2, e4⟩ := len4 c4
    have pl : ∀ x ∈ Txt.split t sp, x.length ≤ 900 := fun x hx => by have := piece_len sp_ne sp_256 hx; omega
    rw [e4] at pl eb
    have la := pl a (by simp)
    have lb := pl n1 (by simp)
    have lc := pl c (by simp)
    have ld := pl n2 (by simp)
    refine ⟨_, rfl, b, _, _, _, _, rfl, SqL.of eb, fun p hp => ?_⟩
    have s2 := same_new hp (.lst [V.str a, .str c])
    have ep : upd H' p (.lst [V.str a, .str c]) p = some (.lst ([a, c].map V.str)) := upd_same
    generalize upd H' p (.lst [V.str a, .str c]) = H2 at s2 ep ⊢
    have s12 := s1.trans s2
    let σ1 : Addr → L2.St := fun D => [some (.str t), some (.ref b), some (.ref p), some (.ref D), none, none, none]
    refine ⟨fun σ H' => ∃ D, σ = σ1 D ∧ Same H2 H' ∧ H' D = some (.lst [vI (wI n1), vI (wI n2)]), ?_, ?_⟩
    · refine ⟨_, rfl, b, _, _, _, _, rfl, SqL.of (s2 _ _ eb), fun p2 hp2 => ⟨p2, _, rfl, SqX.lst upd_same, fun J S W s0 D hD => ?_⟩⟩
      have s3 := same_new hp2 (.lst [V.str n1, .str n2])
      refine lc_mf (ds := [n1, n2]) W (fun _ => true) (fun _ y x => y = vI (wI x)) s0 hD rfl (fun i y x H3 ey ex s m => ?_) (fun H3 ys s e al => ?_)
      · obtain rfl := at_map (f := V.str) (l := [n1, n2]) ey ex
        have lx := pl x (by have := at_mem ex; simp at this; rcases this with rfl | rfl <;> simp)
        exact ⟨rfl, _, rfl, x, rfl, by omega, mf_yes m hD (fun _ _ _ _ _ h => h) ex (show 2 ≤ 100000 by decide) (Same.refl _) rfl rfl⟩
      · rw [Rd.filter_all] at al
        rw [al.map_eq (f := fun x => vI (wI x)) fun _ _ h => h] at e
        exact ⟨D, rfl, s3.trans s, e⟩
    rintro σ H3 ⟨D, rfl, s3, eD⟩
    have s13 := s12.trans s3
    refine ⟨fun σ H' => σ = σ1 D ∧ Same H3 H' ∧ nmB a = true ∧ nmB c = true ∧ numD (optD (wI n1)) = true ∧ numD (optD (wI n2)) = true, ?_, ?_⟩
    · refine ⟨_, rfl, p, _, rfl, SqX.lst (s3 _ _ ep), fun J S W s0 D2 hD => ?_⟩
      refine lc_mf (ds := [a, c]) W (fun _ => true) (fun _ y x => y = .bl (nmB x)) s0 hD rfl (fun i y x H4 ey ex s m => ?_) (fun H4 ys s e al => ?_)
      · obtain rfl := at_map ey ex
        have lx := pl x (by have := at_mem ex; simp at this; rcases this with rfl | rfl <;> simp)
        exact ⟨rfl, _, rfl, _, .str x, rfl, .str x, (show x.length ≤ 1000 by omega), mf_yes m hD (fun _ _ _ _ _ h => h) ex (show 2 ≤ 100000 by decide) (Same.refl _) rfl rfl⟩
      · rw [Rd.filter_all] at al
        have ey := bl_map al
        refine ⟨D2, _, rfl, SqL.of (by rw [← ey]; exact e), _, rfl, ?_⟩
        rw [all_map]
        cases c1 : [a, c].all nmB with
        | false => exact iteT (qn (rj_nm e4 c1) _ (s13.trans s))
        | true =>
          refine iteF ⟨_, rfl, D, _, rfl, SqX.lst (s _ _ eD), fun J S W s0 D3 hD3 => ?_⟩
          refine lc_mf (ds := [wI n1, wI n2]) W (fun _ => true) (fun _ y o => y = .bl (numD (optD o))) s0 hD3 rfl (fun i y o H5 ey ex s5 m => ?_) (fun H5 ys s5 e5 al5 => ?_)
          · obtain rfl := at_map (f := vI) (l := [wI n1, wI n2]) ey ex
            exact ⟨rfl, _, rfl, _, optD o, rfl, dp_vI o, mf_yes m hD3 (fun _ _ _ _ _ h => h) ex (show 2 ≤ 100000 by decide) (Same.refl _) rfl rfl⟩
          · rw [Rd.filter_all] at al5
            have ey := bl_map al5
            refine ⟨D3, _, rfl, SqL.of (by rw [← ey]; exact e5), _, rfl, ?_⟩
            rw [all_map]
            cases c2 : [wI n1, wI n2].all fun o => numD (optD o) with
            | false => exact iteT (qn (rj_num e4 c2) _ ((s13.trans s).trans s5))
            | true =>
              simp only [List.all_cons, List.all_nil, Bool.and_true, Bool.and_eq_true] at c1 c2
              exact iteF ⟨rfl, s.trans s5, c1.1, c1.2, c2.1, c2.2⟩
    rintro σ H4 ⟨rfl, s4, na, nc, k1, k2⟩
    obtain ⟨i, ei, i0⟩ : ∃ i, wI n1 = some i ∧ 0 ≤ i := by
      cases z : wI n1 with
      | none => rw [z] at k1; cases k1
      | some i => rw [z] at k1; exact ⟨i, rfl, of_decide_eq_true k1⟩
    obtain ⟨j, ej, j0⟩ : ∃ j, wI n2 = some j ∧ 0 ≤ j := by
      cases z : wI n2 with
      | none => rw [z] at k2; cases k2
      | some i => rw [z] at k2; exact ⟨i, rfl, of_decide_eq_true k2⟩
    have r4 := rj_4 e4
    rw [ei, ej] at r4
    have r4 : rdJoin t = if nmB a = true ∧ nmB c = true ∧ 0 ≤ i ∧ 0 ≤ j ∧ n1.length ≤ 4 ∧ n2.length ≤ 4 then some ((a, i), (c, j)) else none := r4
    have s14 := s13.trans s4
    rw [ei, ej] at eD
    refine ⟨fun σ H' => σ = σ1 D ∧ Same H4 H' ∧ n1.length ≤ 4 ∧ n2.length ≤ 4, ?_, ?_⟩
    · refine ⟨_, rfl, b, _, _, _, _, rfl, SqL.of ((s2.trans (s3.trans s4)) _ _ eb), fun p2 hp2 => ⟨p2, _, rfl, SqX.lst upd_same, fun J S W s0 D2 hD => ?_⟩⟩
      have s5 := same_new hp2 (.lst [V.str n1, .str n2])
      refine lc_mf (ds := [n1, n2]) W (fun _ => true) (fun _ y x => y = .int ((x.length : Nat) : Int)) s0 hD rfl (fun i y x H5 ey ex s m => ?_) (fun H5 ys s e al => ?_)
      · obtain rfl := at_map (f := V.str) (l := [n1, n2]) ey ex
        have lx := pl x (by have := at_mem ex; simp at this; rcases this with rfl | rfl <;> simp)
        exact ⟨rfl, _, rfl, _, rfl, by rw [sizeLine_eq]; omega, mf_yes m hD (fun _ _ _ _ _ h => h) ex (show 2 ≤ 100000 by decide) (Same.refl _) rfl rfl⟩
      · rw [Rd.filter_all] at al
        rw [al.map_eq (f := fun x : Str => V.int ((x.length : Nat) : Int)) fun _ _ h => h] at e
        refine ⟨D2, [((n1.length : Nat) : Int), ((n2.length : Nat) : Int)], rfl, SqL.of e, (show 0 < 2 by decide), fun mx hm hle => ⟨_, _, rfl, rfl, _, rfl, ?_⟩⟩
        have h1 := hle _ (List.mem_cons_self ..)
        have h2 := hle ((n2.length : Nat) : Int) (by simp)
        have hm : mx = ((n1.length : Nat) : Int) ∨ mx = ((n2.length : Nat) : Int) := by simpa using hm
        by_cases c5 : n1.length ≤ 4 ∧ n2.length ≤ 4
        · rw [decide_eq_false (by rcases hm with z | z <;> omega)]
          exact iteF ⟨rfl, s5.trans s, c5.1, c5.2⟩
        · rw [decide_eq_true (by omega)]
          exact iteT (qn (by rw [r4, if_neg fun z => c5 z.2.2.2.2]) _ ((s14.trans s5).trans s))
    rintro σ H5 ⟨rfl, s5, l1, l2⟩
    rw [if_pos ⟨na, nc, i0, j0, l1, l2⟩] at r4
    have ep5 := (s3.trans (s4.trans s5)) _ _ ep
    have eD5 := (s4.trans s5) _ _ eD
    refine ⟨_, rfl, p, _, _, _, rfl, rfl, SqL.of ep5, at0, _, rfl, D, _, _, _, rfl, rfl, SqL.of eD5, at0, by show 2 ≤ sizeLine; decide, fun t1 h1 => ?_⟩
    have s6 := same_new h1 (.tup [V.str a, vI (some i)])
    have e6 : upd H5 t1 (.tup [V.str a, vI (some i)]) t1 = some (.tup [V.str a, vI (some i)]) := upd_same
    generalize upd H5 t1 (.tup [V.str a, vI (some i)]) = H6 at s6 e6 ⊢
    refine ⟨_, rfl, p, _, _, _, rfl, rfl, SqL.of (s6 _ _ ep5), at1, _, rfl, D, _, _, _, rfl, rfl, SqL.of (s6 _ _ eD5), at1, by show 2 ≤ sizeLine; decide, fun t2 h2 => ?_⟩
    have s7 := same_new h2 (.tup [V.str c, vI (some j)])
    have e7 : upd H6 t2 (.tup [V.str c, vI (some j)]) t2 = some (.tup [V.str c, vI (some j)]) := upd_same
    generalize upd H6 t2 (.tup [V.str c, vI (some j)]) = H7 at s7 e7 ⊢
    refine ⟨by show 2 ≤ sizeLine; decide, fun t3 h3 => ?_⟩
    have s8 := same_new h3 (.tup [V.ref t1, .ref t2])
    refine q _ r4 (.ref t3) _ (((((s14.trans s5).trans s6).trans s7)).trans s8) (dp_tup2 (SqT.of upd_same) ?_ ?_)
    · exact dp_tup2 (SqT.of (s8 _ _ (s7 _ _ e6))) (.str a) (.int i)
    · exact dp_tup2 (SqT.of (s8 _ _ e7)) (.str c) (.int j)
end
end R0

namespace R0
open PySem PySem.Spec PyProof.Rows L2 Hb St Sq Ow En Zp RZ Rd Xb Da Wa
/-! ### texts -/
theorem slen (a b : Str) : (a ++ b).length = a.length + b.length := by rw [TL.len_tl, TL.tl_append, List.length_append, ← TL.len_tl, ← TL.len_tl]
theorem e_len : (Str.empty : Str).length = 0 := rfl
theorem sum_le {α : Type} {f : α → Nat} {c : Nat} : ∀ {l : List α}, (∀ x ∈ l, f x ≤ c) → (l.map f).sum ≤ l.length * c
  | [], _ => Nat.zero_le _
  | x :: l, h => by
    have h1 := h x List.mem_cons_self
    have h2 := sum_le (f := f) fun y hy => h y (List.mem_cons_of_mem _ hy)
    rw [List.map_cons, List.sum_cons, List.length_cons, Nat.succ_mul]; omega
theorem joinL_len (S : List Nat) : ∀ l : List (List Nat), (TL.joinL S l).length ≤ (l.map (·.length)).sum + l.length * S.length
  | [] => Nat.zero_le _
  | [p] => by
    show p.length ≤ _
    rw [List.map_cons, List.sum_cons]; omega
  | p :: q :: r => by
    have ih := joinL_len S (q :: r)
    show (p ++ (S ++ TL.joinL S (q :: r))).length ≤ _
    rw [List.length_append, List.length_append, List.map_cons, List.sum_cons, List.length_cons, Nat.succ_mul]; omega
theorem join_len (y : Str) (parts : List Str) : (Txt.join y parts).length ≤ (parts.map (·.length)).sum + parts.length * y.length := by
  rw [TL.join_eq, TL.len_tl, TL.tl_join]
  have := joinL_len (TL.tl y) (parts.map TL.tl)
  rw [List.map_map, List.length_map, ← TL.len_tl] at this
  rw [show (parts.map (·.length)) = parts.map ((·.length) ∘ TL.tl) from List.map_congr_left fun x _ => TL.len_tl x]
  exact this
def nl : Str := Str.ofString "\n"
def roomS : Str := Str.ofString "room "
def iS (i : Int) : Str := Str.ofString (toString i)
def lotsT (t : Tale) : Str := Txt.join cm (t.map fun l => Txt.join sp l)
def rmRow (r : Rm) : Str := if r.2 = [] then Str.empty ++ roomS ++ r.1 else Str.empty ++ roomS ++ r.1 ++ sp ++ lotsT r.2
def jnRow (w : Str) (j : Jn) : Str := Str.empty ++ w ++ sp ++ j.1.1 ++ sp ++ iS j.1.2 ++ sp ++ j.2.1 ++ sp ++ iS j.2.2
def gongS : Str := Str.ofString "gong"
def callS : Str := Str.ofString "call"
def rowsR (R : RD) : List Str := (R.rooms.map rmRow ++ R.gongs.map (jnRow gongS)) ++ R.calls.map (jnRow callS)
def textR (R : RD) : Str := Txt.join nl (rowsR R)
/-- few of all -/
structure RSm (R : RD) : Prop where
  nm : RNm R
  nr : R.rooms.length ≤ 10
  nt : ∀ r ∈ R.rooms, r.2.length ≤ 5 ∧ ∀ l ∈ r.2, l.length ≤ 5
  ng : R.gongs.length ≤ 10
  nc : R.calls.length ≤ 10
  ig : ∀ j ∈ R.gongs, 0 ≤ j.1.2 ∧ j.1.2 < 100 ∧ 0 ≤ j.2.2 ∧ j.2.2 < 100
  ic : ∀ j ∈ R.calls, 0 ≤ j.1.2 ∧ j.1.2 < 100 ∧ 0 ≤ j.2.2 ∧ j.2.2 < 100
theorem iS_len {i : Int} (h0 : 0 ≤ i) (h1 : i < 100) : (iS i).length ≤ 2 := by
  obtain ⟨n, rfl⟩ := Int.eq_ofNat_of_zero_le h0
  rw [TL.len_tl]
  show (TL.tl (Str.ofString (toString ((n : Nat) : Int)))).length ≤ 2
  rw [TL.tl_num]
  exact TL.numL_len (k := 2) (by decide) (by omega)
theorem lg {i : Int} (h0 : 0 ≤ i) (h1 : i < 100) : i.natAbs.log2 < 1920 := Nat.lt_of_le_of_lt (Nat.log2_le_self _) (by omega)
theorem sp_len : sp.length = 1 := by rfl
theorem cm_len : cm.length = 2 := by rfl
theorem nl_len : nl.length = 1 := by rfl
theorem room_len : roomS.length = 5 := by rfl
theorem lot_tl {l : Lot} (hl : l.length ≤ 5) (h : ∀ x ∈ l, IsNm x) : (l.map (·.length)).sum + l.length * sp.length ≤ 45 := by
  have := sum_le (f := fun x : Str => x.length) (c := 8) fun x hx => (h x hx).2.1
  rw [sp_len]; omega
theorem lot_len {l : Lot} (hl : l.length ≤ 5) (h : ∀ x ∈ l, IsNm x) : (Txt.join sp l).length ≤ 45 := Nat.le_trans (join_len _ _) (lot_tl hl h)
theorem tale_tl {t : Tale} (ht : t.length ≤ 5) (hl : ∀ l ∈ t, l.length ≤ 5) (h : NmT t) : ((t.map fun l => Txt.join sp l).map (·.length)).sum + (t.map fun l => Txt.join sp l).length * cm.length ≤ 240 := by
  have := sum_le (f := fun x : Str => x.length) (c := 45) (l := t.map fun l => Txt.join sp l) fun x hx => by
    obtain ⟨l, hl2, rfl⟩ := List.mem_map.mp hx
    exact lot_len (hl l hl2) (h l hl2)
  rw [List.length_map] at this ⊢
  rw [cm_len]; omega
theorem lotsT_len {t : Tale} (ht : t.length ≤ 5) (hl : ∀ l ∈ t, l.length ≤ 5) (h : NmT t) : (lotsT t).length ≤ 240 := Nat.le_trans (join_len _ _) (tale_tl ht hl h)
theorem rmRow_len {R : RD} (s : RSm R) {r : Rm} (hr : r ∈ R.rooms) : (rmRow r).length ≤ 260 := by
  have h1 := lotsT_len (s.nt r hr).1 (s.nt r hr).2 (s.nm.r r hr).2
  have h2 := (s.nm.r r hr).1.2.1
  unfold rmRow
  split
  · simp only [slen, e_len, room_len]; omega
  · simp only [slen, e_len, room_len, sp_len]; omega
theorem jnRow_len {w : Str} {j : Jn} (hw : w.length = 4) (h : NmJ j) (hi : 0 ≤ j.1.2 ∧ j.1.2 < 100 ∧ 0 ≤ j.2.2 ∧ j.2.2 < 100) : (jnRow w j).length ≤ 40 := by
  have h1 := h.1.2.1
  have h2 := h.2.2.1
  have h3 := iS_len hi.1 hi.2.1
  have h4 := iS_len hi.2.2.1 hi.2.2.2
  unfold jnRow
  simp only [slen, e_len, sp_len]; omega
theorem rows_sum {R : RD} (s : RSm R) : ((rowsR R).map (·.length)).sum + (rowsR R).length * nl.length ≤ 30000 := by
  have := sum_le (f := fun x : Str => x.length) (c := 260) (l := rowsR R) fun x hx => by
    unfold rowsR at hx
    rcases List.mem_append.mp hx with hx | hx
    · rcases List.mem_append.mp hx with hx | hx
      · obtain ⟨r, hr, rfl⟩ := List.mem_map.mp hx
        exact rmRow_len s hr
      · obtain ⟨j, hj, rfl⟩ := List.mem_map.mp hx
        exact Nat.le_trans (jnRow_len rfl (s.nm.g j hj) (s.ig j hj)) (by decide)
    · obtain ⟨j, hj, rfl⟩ := List.mem_map.mp hx
      exact Nat.le_trans (jnRow_len rfl (s.nm.c j hj) (s.ic j hj)) (by decide)
  have h2 : (rowsR R).length ≤ 30 := by
    unfold rowsR
    have := s.nr; have := s.ng; have := s.nc
    simp only [List.length_append, List.length_map]; omega
  rw [nl_len]; omega
def tJd (ts : List TE) : TE := fun σ H Q => tJs ts Str.empty σ H fun out H1 => Q (.str out) H1
theorem pe_jd {X : Cx} {v1 v2 : Expr} {rest : List Expr} {ts : List TE} {pos : Pos} (h : PJ X (v1 :: v2 :: rest) ts) : PE X (.JoinedStr (v1 :: v2 :: rest) pos) (tJd ts) :=
  pe_joined h
section
variable {P : Program} {w : World} {K : PySem.W.Frag} {mg : Str → Option Value} {base : Heap}
/-! ### text -/
abbrev s_Rooms_text : Stmt := inClass (top 22) 8
theorem sc_Rooms_text : FnScope ["self", "rows", "name", "tale", "lots", "word", "joins", "lot", "one", "other"] ["self"] (defScope s_Rooms_text) := ⟨rfl, rfl, rfl, by decide +kernel, rfl, by decide +kernel, by decide +kernel⟩
def spText (K : PySem.W.Frag) (C : Addr) : Sp := fun vs H Q _ => ∃ (m : Addr) (R : RD), vs = [.ref m] ∧ RoomsAt K C H m R ∧ RSm R ∧ ∀ H', Same H H' → Q (.str (textR R)) H'
theorem ok_text {f C : Addr} {fd : FuncData} (F : Fun K "text" "Rooms.text" s_Rooms_text f fd) (TC : RmT K C) : FnOk P w K mg base CX0 1 f fd ["self"] (spText K C) := by
  refine F.ok sc_Rooms_text (fun vs H Q E h => ?_) (fun cdv A outer s H vs Q E hr h => ?_)
  · obtain ⟨_, _, rfl, _⟩ := h
    rfl
  · obtain ⟨m, R, rfl, ⟨dx, a, b, c, hm, d1, d2, d3⟩, sm, q⟩ := h
    refine ⟨_, (pss_cons (ps_set (i := 1) sc_Rooms_text.nd rfl (Or.inl rfl) (pe_lst pa_nil))
    (Evl.pss_cut (ps_for PassesOwn.never rfl (pi_tup (pe_fld (pv 0) rfl)) (pg_tup rfl (pgs_cons (pg_name (i := 2) sc_Rooms_text.nd rfl (Or.inl rfl)) (pgs_cons (pg_name (i := 3) sc_Rooms_text.nd rfl (Or.inl rfl)) pgs_nil)))
      (pss_cons (ps_set (i := 4) sc_Rooms_text.nd rfl (Or.inl rfl) (pe_joinK K rfl pe_str (pe_lc (own := [("lot", 7)]) (g := gName 7) rfl sc_Rooms_text.nd (pi_seq (pv 3)) (blkOk_by (N := ["self", "rows", "name", "tale", "lots", "word", "joins", "lot", "one", "other"]) (sc := defScope s_Rooms_text) (by decide +kernel)) (fun _ _ _ _ _ => pg_name (i := 7) sc_Rooms_text.nd rfl (Or.inl rfl)) (fun _ _ _ _ _ => pts_nil) (fun _ _ _ _ _ => pe_joinK K rfl pe_str (pv 7)))))
    (pss_one (ps_expr (pe_bm PySem.F.plainAttrs_list PySem.F.slot_list_append PySem.F.type_list_append mt_append (pv 1) (pa_cons (pe_ifExp (pt_truth (pv 3) (by intro _; rfl)) (pe_jd (PJ.cons pe_str (PJ.cons (pe_fmt (pv 2)) (PJ.cons pe_str (PJ.cons (pe_fmt (pv 4)) PJ.nil))))) (pe_jd (PJ.cons pe_str (PJ.cons (pe_fmt (pv 2)) PJ.nil)))) pa_nil))))))
    (Evl.pss_cut (ps_for PassesOwn.never rfl (pi_seq (pe_tup (pa_cons (pe_tup (pa_cons pe_str (pa_cons (pe_fld (pv 0) rfl) pa_nil))) (pa_cons (pe_tup (pa_cons pe_str (pa_cons (pe_fld (pv 0) rfl) pa_nil))) pa_nil)))) (pg_tup rfl (pgs_cons (pg_name (i := 5) sc_Rooms_text.nd rfl (Or.inr rfl)) (pgs_cons (pg_name (i := 6) sc_Rooms_text.nd rfl (Or.inl rfl)) pgs_nil)))
      (pss_one (ps_set (i := 1) sc_Rooms_text.nd rfl (Or.inl rfl) (pe_op op_cat (pv 1) (pe_lc (own := [("one", 8), ("other", 9)]) (g := gTup K 2 (gCons (gName 8) (gCons (gName 9) gNil))) rfl sc_Rooms_text.nd (pi_seq (pv 6)) (blkOk_by (N := ["self", "rows", "name", "tale", "lots", "word", "joins", "lot", "one", "other"]) (sc := defScope s_Rooms_text) (by decide +kernel)) (fun _ _ _ _ _ => pg_tup rfl (pgs_cons (pg_name (i := 8) sc_Rooms_text.nd rfl (Or.inl rfl)) (pgs_cons (pg_name (i := 9) sc_Rooms_text.nd rfl (Or.inl rfl)) pgs_nil))) (fun _ _ _ _ _ => pts_nil) (fun _ _ _ _ _ => pe_jd (PJ.cons (pe_fmt (pv 5)) (PJ.cons pe_str (PJ.cons (pe_fmt (pe_ix (r := rIxT K) ix_tup (pv 8) pe_int (fun _ _ => rfl))) (PJ.cons pe_str (PJ.cons (pe_fmt (pe_ix (r := rIxT K) ix_tup (pv 8) pe_int (fun _ _ => rfl))) (PJ.cons pe_str (PJ.cons (pe_fmt (pe_ix (r := rIxT K) ix_tup (pv 9) pe_int (fun _ _ => rfl))) (PJ.cons pe_str (PJ.cons (pe_fmt (pe_ix (r := rIxT K) ix_tup (pv 9) pe_int (fun _ _ => rfl))) PJ.nil)))))))))))))))
    (pss_one (ps_ret (pe_joinK K rfl pe_str (pv 1))))))), ?_⟩
    obtain ⟨ra, xs, ea, hra, al⟩ := dp_seq d1
    cases ea
    refine ⟨by show 0 ≤ sizeLine; decide, fun l hl => ?_⟩
    have s1 := same_new hl (.lst [])
    have el : upd H l (.lst []) l = some (.lst []) := upd_same
    generalize upd H l (.lst []) = H1 at s1 el ⊢
    have kpl : ∀ {H2 : Hp}, Kept l H1 H2 → Same H H2 := fun {H2} k b o e => k b o (s1 b o e) (ne_of_none e hl)
    refine ⟨fun σ H' => (∃ o2 o3 o4, σ = [some (.ref m), some (.ref l), o2, o3, o4, none, none, none, none, none]) ∧ Kept l H1 H' ∧ H' l = some (.lst ((R.rooms.map rmRow).map V.str)), ?_, ?_⟩
    · refine ⟨_, rfl, m, C, dx, _, _, rfl, s1 _ _ hm, TC.cl, TC.nR, rfl, a, rfl, ⟨_, tupFix (Fix.of s1) hra⟩, ?_⟩
      refine for_tup (xs := xs) (fun i σ H' => (∃ o2 o3 o4, σ = [some (.ref m), some (.ref l), o2, o3, o4, none, none, none, none, none]) ∧ (Kept l H1 H' ∧ Fix H1 H') ∧ H' l = some (.lst (((R.rooms.take i).map rmRow).map V.str))) ⟨⟨none, none, none, rfl⟩, ⟨Kept.refl _ _, Fix.refl _⟩, el⟩ (fun i σ H' _ pv => tupFix ((Fix.of s1).trans pv.2.1.2) hra) ?_ ?_
      · rintro i y σ H2 ey ⟨⟨o2, o3, o4, rfl⟩, ⟨k2, f2⟩, e2⟩
        obtain ⟨r, er, dr⟩ := al.get ey
        have hr' := at_mem er
        obtain ⟨b', vt, rfl, hb, ht⟩ := dp_rm (dp_same (kpl k2) dr)
        obtain ⟨tb, ys, rfl, htb, tl⟩ := dp_seq ht
        have nr := sm.nm.r r hr'
        have nt := sm.nt r hr'
        refine ⟨b', _, rfl, hb, rfl, _, _, rfl, _, _, rfl, rfl, ?_⟩
        refine ⟨⟨_, rfl⟩, _, rfl, tb, ys, rfl, .inr htb, fun J S W s0 D hD => ?_⟩
        refine lc_mf (ds := r.2) W (fun _ => true) (fun _ y l => y = .str (Txt.join sp l)) s0 hD tl.len (fun i' y lt H3 ey' elt s m => ?_) (fun H3 zs s e al2 => ?_)
        · obtain ⟨l', el', dl⟩ := tl.get ey'
          obtain rfl : l' = lt := Option.some.inj (el'.symm.trans elt)
          obtain ⟨lb, rfl, hlb⟩ := dp_lot (dp_same s dl)
          have hl' := at_mem elt
          refine ⟨rfl, ⟨_, rfl⟩, _, rfl, sp, lb, l', rfl, rfl, .inr hlb, Nat.le_trans (lot_tl (nt.2 l' hl') (nr.2 l' hl')) (by decide), ?_⟩
          exact mf_yes m hD (fun _ _ _ _ _ h => h) elt (by have := nt.1; omega) (Same.refl _) rfl rfl
        · rw [Rd.filter_all] at al2
          have ez : zs = (r.2.map fun l => Txt.join sp l).map V.str := by rw [List.map_map]; exact al2.map_eq fun _ _ h => h
          rw [ez] at e
          refine ⟨cm, D, _, rfl, rfl, .inl (SqL.of e), Nat.le_trans (tale_tl nt.1 nt.2 nr.2) (by decide), ?_⟩
          have e3 : H3 l = some (.lst (((R.rooms.take i).map rmRow).map V.str)) := s _ _ e2
          have rl := rmRow_len sm hr'
          have post : ∀ z : Str, z = rmRow r → (∃ o2 o3 o4, ([some (V.ref m), some (.ref l), some (.str r.1), some (.ref tb), some (.str (lotsT r.2)), none, none, none, none, none] : L2.St) = [some (.ref m), some (.ref l), o2, o3, o4, none, none, none, none, none]) ∧ (Kept l H1 (upd H3 l (.lst (((R.rooms.take i).map rmRow).map V.str ++ [V.str z]))) ∧ Fix H1 (upd H3 l (.lst (((R.rooms.take i).map rmRow).map V.str ++ [V.str z])))) ∧ upd H3 l (.lst (((R.rooms.take i).map rmRow).map V.str ++ [V.str z])) l = some (.lst (((R.rooms.take (i + 1)).map rmRow).map V.str)) := fun z hz => by
            subst hz
            refine ⟨⟨_, _, _, rfl⟩, ⟨(k2.trans (Hb.Same.kept s)).trans kept_upd, (f2.trans (Fix.of s)).trans (Fix.lst e3)⟩, ?_⟩
            rw [upd_same, List.take_add_one, er, List.map_append, List.map_append]; rfl
          have ln : (((R.rooms.take i).map rmRow).map V.str).length < sizeLine := by
            rw [List.length_map, List.length_map, sizeLine_eq]
            have := sm.nr
            have : (R.rooms.take i).length ≤ R.rooms.length := List.length_take_le' ..
            omega
          have l3 := htb
          refine ⟨_, rfl, .inl ⟨rfl, _, SqL.of e3⟩, ?_⟩
          by_cases c : r.2 = []
          · have ey0 : ys = [] := List.eq_nil_of_length_eq_zero (by rw [tl.len, c]; rfl)
            have er0 : rmRow r = Str.empty ++ roomS ++ r.1 := if_pos c
            rw [er0] at rl post
            refine ⟨_, rfl, false, .inr (.inl ⟨ys, tupFix (Fix.of s) htb, by rw [ey0]; rfl⟩), iteF ?_⟩
            simp only [slen, e_len, room_len] at rl
            refine ⟨roomS, rfl, by simp only [slen, e_len, room_len, sizeLine_eq]; omega, _, rfl, .inl ⟨r.1, rfl, by rw [sizeLine_eq]; omega, r.1, rfl, by simp only [slen, e_len, room_len, sizeLine_eq]; omega, ?_⟩⟩
            exact ⟨l, _, _, rfl, rfl, e3, ln, post _ rfl⟩
          · have ey0 : ys.isEmpty = false := by
              cases ys with
              | nil => exact absurd (List.eq_nil_of_length_eq_zero (by rw [← tl.len]; rfl)) c
              | cons _ _ => rfl
            have er0 : rmRow r = Str.empty ++ roomS ++ r.1 ++ sp ++ lotsT r.2 := if_neg c
            rw [er0] at rl post
            refine ⟨_, rfl, true, .inr (.inl ⟨ys, tupFix (Fix.of s) htb, by rw [ey0]; rfl⟩), iteT ?_⟩
            simp only [slen, e_len, room_len, sp_len] at rl
            refine ⟨roomS, rfl, by simp only [slen, e_len, room_len, sizeLine_eq]; omega, _, rfl, .inl ⟨r.1, rfl, by rw [sizeLine_eq]; omega, r.1, rfl, by simp only [slen, e_len, room_len, sizeLine_eq]; omega, sp, rfl, by simp only [slen, e_len, room_len, sp_len, sizeLine_eq]; omega, _, rfl, .inl ⟨lotsT r.2, rfl, by rw [sizeLine_eq]; omega, lotsT r.2, rfl, by simp only [slen, e_len, room_len, sp_len, sizeLine_eq]; omega, ?_⟩⟩⟩
            exact ⟨l, _, _, rfl, rfl, e3, ln, post _ rfl⟩
      · rintro σ H2 ⟨h1, ⟨k2, f2⟩, e2⟩
        rw [al.len, List.take_of_length_le (Nat.le_refl _)] at e2
        exact ⟨h1, k2, e2⟩
    rintro σ H2 ⟨⟨o2, o3, o4, rfl⟩, k2, e2⟩
    have s2 := kpl k2
    let rwN : Nat → List Str := fun i => match i with
      | 0 => R.rooms.map rmRow
      | 1 => R.rooms.map rmRow ++ R.gongs.map (jnRow gongS)
      | _ => rowsR R
    have cnt := rows_sum sm
    have rcnt : ∀ i, (rwN i).length ≤ 30 := fun i => by
      have := sm.nr; have := sm.ng; have := sm.nc
      match i with
      | 0 => show (R.rooms.map rmRow).length ≤ 30; rw [List.length_map]; omega
      | 1 => show (R.rooms.map rmRow ++ R.gongs.map (jnRow gongS)).length ≤ 30; simp only [List.length_append, List.length_map]; omega
      | _ + 2 => show ((R.rooms.map rmRow ++ R.gongs.map (jnRow gongS)) ++ R.calls.map (jnRow callS)).length ≤ 30; simp only [List.length_append, List.length_map]; omega
    refine ⟨fun σ H' => (∃ lr o5 o6, σ = [some (.ref m), some (.ref lr), o2, o3, o4, o5, o6, none, none, none] ∧ H' lr = some (.lst ((rowsR R).map V.str))) ∧ Same H H', ?_, ?_⟩
    · refine ⟨_, rfl, m, C, dx, _, _, rfl, s2 _ _ hm, TC.cl, TC.nG, rfl, by show 2 ≤ sizeLine; decide, fun t1 h1 => ?_⟩
      have s3 := same_new h1 (.tup [V.str gongS, .ref b])
      have e3 : upd H2 t1 (.tup [V.str gongS, .ref b]) t1 = some (.tup [V.str gongS, .ref b]) := upd_same
      have eg : (.str gongS : V) = .str (Str.ofString "gong") := rfl
      have ec : (.str callS : V) = .str (Str.ofString "call") := rfl
      rw [eg] at s3 e3
      generalize upd H2 t1 (.tup [V.str (Str.ofString "gong"), .ref b]) = H3 at s3 e3 ⊢
      refine ⟨_, rfl, m, C, dx, _, _, rfl, s3 _ _ (s2 _ _ hm), TC.cl, TC.nC, rfl, by show 2 ≤ sizeLine; decide, fun t2 h2 => ?_⟩
      have s4 := same_new h2 (.tup [V.str callS, .ref c])
      have e4 : upd H3 t2 (.tup [V.str callS, .ref c]) t2 = some (.tup [V.str callS, .ref c]) := upd_same
      rw [ec] at s4 e4
      generalize upd H3 t2 (.tup [V.str (Str.ofString "call"), .ref c]) = H4 at s4 e4 ⊢
      refine ⟨by show 2 ≤ sizeLine; decide, fun tt h3 => ?_⟩
      have s5 := same_new h3 (.tup [V.ref t1, .ref t2])
      have e5 : upd H4 tt (.tup [V.ref t1, .ref t2]) tt = some (.tup [V.ref t1, .ref t2]) := upd_same
      generalize upd H4 tt (.tup [V.ref t1, .ref t2]) = H5 at s5 e5 ⊢
      have s25 := (s3.trans s4).trans s5
      have s05 := s2.trans s25
      refine ⟨tt, _, rfl, SqX.tup e5, fun J S W s0 => ?_⟩
      refine for_sq W (fun i σ H' => (∃ lr o5 o6, σ = [some (.ref m), some (.ref lr), o2, o3, o4, o5, o6, none, none, none] ∧ H' lr = some (.lst ((rwN i).map V.str))) ∧ Same H5 H') ⟨⟨l, none, none, rfl, s25 _ _ e2⟩, Same.refl _⟩ (fun i σ H' pv => W.keep (fun o e => pv.2 _ _ e) s0) ?_ ?_
      · rintro i σ H6 y ey ⟨⟨lr, o5, o6, rfl, el6⟩, s6⟩
        have s06 := s05.trans s6
        obtain ⟨wd, tb, jb, js, rfl, et, dj, lw, hj, hi, rw1, lj⟩ : ∃ (wd : Str) (tb jb : Addr) (js : List Jn), y = .ref tb ∧ H6 tb = some (.tup [.str wd, .ref jb]) ∧ Dp K H6 (.ref jb) (.tuple (js.map jnD)) ∧ wd.length = 4 ∧ (∀ j ∈ js, NmJ j) ∧ (∀ j ∈ js, 0 ≤ j.1.2 ∧ j.1.2 < 100 ∧ 0 ≤ j.2.2 ∧ j.2.2 < 100) ∧ rwN (i + 1) = rwN i ++ js.map (jnRow wd) ∧ js.length ≤ 10 := by
          match i, ey with
          | 0, ey =>
            obtain rfl : V.ref t1 = y := Option.some.inj ey
            exact ⟨gongS, t1, b, R.gongs, rfl, s6 _ _ (s5 _ _ (s4 _ _ e3)), dp_same s06 d2, rfl, sm.nm.g, sm.ig, rfl, sm.ng⟩
          | 1, ey =>
            obtain rfl : V.ref t2 = y := Option.some.inj ey
            exact ⟨callS, t2, c, R.calls, rfl, s6 _ _ (s5 _ _ e4), dp_same s06 d3, rfl, sm.nm.c, sm.ic, rfl, sm.nc⟩
          | n + 2, ey => cases ey
        refine ⟨tb, _, rfl, SqT.of et, rfl, _, _, rfl, _, _, rfl, rfl, ?_⟩
        obtain ⟨jb', jxs, ejb, hjb, jal⟩ := dp_seq dj
        cases ejb
        refine ⟨_, rfl, _, rfl, jb, jxs, rfl, .inr hjb, fun J2 S2 W2 z0 D hD => ?_⟩
        refine lc_mf (ds := js) W2 (fun _ => true) (fun _ y j => y = .str (jnRow wd j)) z0 hD jal.len (fun i' y j H7 ey' ej s m => ?_) (fun H7 zs s e al2 => ?_)
        · obtain ⟨j', ej', dj'⟩ := jal.get ey'
          obtain rfl : j' = j := Option.some.inj (ej'.symm.trans ej)
          obtain ⟨bj, v1, v2, rfl, hbj, g1, g2⟩ := dp_jn (dp_same s dj')
          obtain ⟨b1, rfl, hb1⟩ := dp_st g1
          obtain ⟨b2, rfl, hb2⟩ := dp_st g2
          have nj := hj j' (at_mem ej)
          have ij := hi j' (at_mem ej)
          have x1 := nj.1.2.1
          have x2 := nj.2.2.1
          have i1 := iS_len ij.1 ij.2.1
          have i2 := iS_len ij.2.2.1 ij.2.2.2
          refine ⟨bj, _, rfl, hbj, rfl, _, _, rfl, _, _, rfl, rfl, rfl, ?_⟩
          refine ⟨_, rfl, .inl ⟨wd, rfl, by rw [sizeLine_eq]; omega, wd, rfl, by simp only [slen, e_len, sizeLine_eq]; omega, sp, rfl, by simp only [slen, e_len, sp_len, sizeLine_eq]; omega, ?_⟩⟩
          refine ⟨_, rfl, b1, _, _, _, rfl, rfl, hb1, at0, .inl ⟨j'.1.1, rfl, by rw [sizeLine_eq]; omega, j'.1.1, rfl, by simp only [slen, e_len, sp_len, sizeLine_eq]; omega, sp, rfl, by simp only [slen, e_len, sp_len, sizeLine_eq]; omega, ?_⟩⟩
          refine ⟨_, rfl, b1, _, _, _, rfl, rfl, hb1, at1, .inr ⟨j'.1.2, rfl, lg ij.1 ij.2.1, iS j'.1.2, rfl, by simp only [slen, e_len, sp_len, sizeLine_eq]; omega, sp, rfl, by simp only [slen, e_len, sp_len, sizeLine_eq]; omega, ?_⟩⟩
          refine ⟨_, rfl, b2, _, _, _, rfl, rfl, hb2, at0, .inl ⟨j'.2.1, rfl, by rw [sizeLine_eq]; omega, j'.2.1, rfl, by simp only [slen, e_len, sp_len, sizeLine_eq]; omega, sp, rfl, by simp only [slen, e_len, sp_len, sizeLine_eq]; omega, ?_⟩⟩
          refine ⟨_, rfl, b2, _, _, _, rfl, rfl, hb2, at1, .inr ⟨j'.2.2, rfl, lg ij.2.2.1 ij.2.2.2, iS j'.2.2, rfl, by simp only [slen, e_len, sp_len, sizeLine_eq]; omega, ?_⟩⟩
          exact mf_yes m hD (fun _ _ _ _ _ h => h) ej (by omega) (Same.refl _) rfl rfl
        · rw [Rd.filter_all] at al2
          have ez : zs = (js.map (jnRow wd)).map V.str := by rw [List.map_map]; exact al2.map_eq fun _ _ h => h
          rw [ez] at e
          have rc := rcnt (i + 1)
          rw [rw1] at rc
          refine ⟨lr, D, _, _, rfl, rfl, s _ _ el6, e, by rw [List.length_map, List.length_map, ← List.length_append, sizeLine_eq]; omega, fun p hp => ⟨⟨p, _, _, rfl, ?_⟩, (s6.trans s).trans (same_new hp _)⟩⟩
          rw [upd_same, rw1, List.map_append]
      · rintro σ H6 ⟨⟨lr, o5, o6, rfl, el6⟩, s6⟩
        exact ⟨⟨lr, o5, o6, rfl, el6⟩, s05.trans s6⟩
    rintro σ H6 ⟨⟨lr, o5, o6, rfl, el6⟩, s6⟩
    exact ⟨⟨_, rfl⟩, _, rfl, nl, lr, rowsR R, rfl, rfl, .inl (SqL.of el6), Nat.le_trans cnt (by decide), q _ s6⟩
end
end R0

namespace R0
open PySem PySem.Spec PyProof.Rows L2 Hb St Sq Ow En Zp RZ Rd Xb Da Wa
/-! ### data without lists -/
mutual
def noL : PyData → Bool
  | .list _ => false
  | .tuple ds => noLs ds
  | _ => true
def noLs : List PyData → Bool
  | [] => true
  | d :: r => noL d && noLs r
end
mutual
theorem dp_fix {K : PySem.W.Frag} {H H' : Hp} (f : Fix H H') : ∀ {d : PyData} {v : V}, noL d = true → Dp K H v d → Dp K H' v d
  | _, _, _, .non => .non
  | _, _, _, .bl b => .bl b
  | _, _, _, .int i => .int i
  | _, _, _, .str x => .str x
  | _, _, n, .lst h a => by simp [noL] at n
  | _, _, n, .tup h a => .tup (tupFix f h) (dpa_fix f (by simpa [noL] using n) a)
theorem dpa_fix {K : PySem.W.Frag} {H H' : Hp} (f : Fix H H') : ∀ {ds : List PyData} {xs : List V}, noLs ds = true → DpAll K H xs ds → DpAll K H' xs ds
  | _, _, _, .nil => .nil
  | _, _, n, .cons h t => .cons (dp_fix f (by simp only [noLs, Bool.and_eq_true] at n; exact n.1) h) (dpa_fix f (by simp only [noLs, Bool.and_eq_true] at n; exact n.2) t)
end
theorem noLs_map {α : Type} {f : α → PyData} (h : ∀ a, noL (f a) = true) : ∀ l : List α, noLs (l.map f) = true
  | [] => by simp [noLs]
  | a :: l => by rw [List.map_cons]; simp only [noLs, h a, noLs_map h l, Bool.and_self]
theorem noL_lD (l : Lot) : noL (lD l) = true := by unfold lD; simp only [noL]; exact noLs_map (fun a => by simp [noL]) l
theorem noL_tD (t : Tale) : noL (tD t) = true := by unfold tD; simp only [noL]; exact noLs_map noL_lD t
theorem noL_rm (r : Rm) : noL (rmD r) = true := by unfold rmD; simp [noL, noLs, noL_tD]
theorem noL_st (s : Stp) : noL (stD s) = true := by unfold stD; simp [noL, noLs]
theorem noL_jn (j : Jn) : noL (jnD j) = true := by unfold jnD; simp [noL, noLs, noL_st]
/-! ### what is read -/
def rdRows : List Str → Str → RD → Nat → RD ⊕ Nat
  | [], _, R, _ => .inl R
  | row :: rest, last, R, n =>
    if mayB last (Txt.partition row sp).1 = false then .inr n else
    if (Txt.partition row sp).1 = Str.ofString "room" then (match rdRoom (Txt.partition row sp).2.2 with
      | none => .inr n
      | some r => rdRows rest (Txt.partition row sp).1 { R with rooms := R.rooms ++ [r] } (n + 1)) else
    (match rdJoin (Txt.partition row sp).2.2 with
      | none => .inr n
      | some j => rdRows rest (Txt.partition row sp).1 (if (Txt.partition row sp).1 = gongS then { R with gongs := R.gongs ++ [j] } else { R with calls := R.calls ++ [j] }) (n + 1))
def rdText (t : Str) : RD ⊕ Nat := rdRows (Txt.split t nl) (Str.ofString "room") ⟨[], [], []⟩ 0
/-- what is small enough of what was read -/
structure RSz (R : RD) (n : Nat) : Prop where
  r : ∀ r ∈ R.rooms, SmE (rmD r)
  k : R.rooms.length ≤ n
  g : R.gongs.length ≤ n
  c : R.calls.length ≤ n
  ig : ∀ j ∈ R.gongs, SmJ (jnD j)
  ic : ∀ j ∈ R.calls, SmJ (jnD j)
theorem nmB_len {x : Str} (h : nmB x = true) : x.length ≤ 8 := by
  unfold nmB at h
  rw [Bool.and_eq_true, decide_eq_true_eq] at h
  exact h.1
theorem smE_rm {r : Rm} (h1 : nmB r.1 = true) (h2 : r.2.length ≤ 1000) (h3 : ∀ l ∈ r.2, l.length ≤ 1000 ∧ ∀ x ∈ l, nmB x = true) : SmE (rmD r) := by
  intro x hx
  have hx : x = .str r.1 ∨ x = tD r.2 := by simpa using hx
  rcases hx with rfl | rfl
  · exact ⟨(by show r.1.length ≤ 1000; have := nmB_len h1; omega), trivial⟩
  · refine ⟨trivial, by rw [List.length_map]; exact h2, fun d hd => ?_⟩
    obtain ⟨l, hl, rfl⟩ := List.mem_map.mp hd
    refine ⟨by rw [List.length_map]; exact (h3 l hl).1, fun e he => ?_⟩
    obtain ⟨x, hx, rfl⟩ := List.mem_map.mp he
    show x.length ≤ 1000
    have := nmB_len ((h3 l hl).2 x hx)
    omega
theorem smJ_jn {j : Jn} (h1 : nmB j.1.1 = true) (h2 : nmB j.2.1 = true) : SmJ (jnD j) := by
  have s : ∀ s : Stp, nmB s.1 = true → SmS (stD s) := fun s h x hx => by
    have hx : x = .str s.1 ∨ x = .int s.2 := by simpa using hx
    rcases hx with rfl | rfl
    · show s.1.length ≤ 1000; have := nmB_len h; omega
    · trivial
  intro x hx
  have hx : x = stD j.1 ∨ x = stD j.2 := by simpa using hx
  rcases hx with rfl | rfl
  · exact s _ h1
  · exact s _ h2
theorem rdLots_len {t : Str} (lt : t.length ≤ 900) : (rdLots t).length ≤ 902 ∧ ∀ l ∈ rdLots t, l.length ≤ 902 := by
  obtain ⟨p1, p3, p2⟩ := part_len (x := t) sp_ne
  unfold rdLots
  by_cases c : (Txt.partition t sp).2.1.length ≠ 0
  · rw [if_pos c]
    have sl := PyProof.Rows.split_le (Txt.partition t sp).2.2 cm
    refine ⟨by rw [List.length_map]; omega, fun l hl => ?_⟩
    obtain ⟨z, hz, rfl⟩ := List.mem_map.mp hl
    have h1 := piece_len cm_ne cm_256 hz
    have h2 := PyProof.Rows.split_le z sp
    omega
  · rw [if_neg c]
    exact ⟨Nat.zero_le _, fun l hl => by cases hl⟩
theorem rdRoom_sm {t : Str} {r : Rm} (lt : t.length ≤ 900) (h : rdRoom t = some r) : SmE (rmD r) := by
  unfold rdRoom at h
  by_cases c : nmB (Txt.partition t sp).1 = true ∧ ((rdLots t).all fun l => l.all nmB) = true
  · rw [if_pos c] at h
    obtain rfl := Option.some.inj h
    have l := rdLots_len lt
    refine smE_rm c.1 (by show (rdLots t).length ≤ 1000; omega) fun a ha => ⟨by have := l.2 a ha; omega, fun x hx => ?_⟩
    exact List.all_eq_true.mp (List.all_eq_true.mp c.2 a ha) x hx
  · rw [if_neg c] at h; cases h
theorem rdJoin_sm {t : Str} {j : Jn} (h : rdJoin t = some j) : SmJ (jnD j) := by
  by_cases c4 : (Txt.split t sp).length = 4
  · obtain ⟨a, b, c, d, e⟩ := len4 c4
    rw [rj_4 e] at h
    cases e1 : wI b with
    | none => rw [e1] at h; cases h
    | some i =>
      cases e2 : wI d with
      | none => rw [e1, e2] at h; cases h
      | some k =>
        rw [e1, e2] at h
        have h : (if nmB a = true ∧ nmB c = true ∧ 0 ≤ i ∧ 0 ≤ k ∧ b.length ≤ 4 ∧ d.length ≤ 4 then some ((a, i), (c, k)) else none) = some j := h
        by_cases z : nmB a = true ∧ nmB c = true ∧ 0 ≤ i ∧ 0 ≤ k ∧ b.length ≤ 4 ∧ d.length ≤ 4
        · rw [if_pos z] at h
          obtain rfl := Option.some.inj h
          exact smJ_jn z.1 z.2.1
        · rw [if_neg z] at h; cases h
  · rw [rj_len c4] at h; cases h
def strD : PyData → Bool
  | .str _ => true
  | _ => false
section
variable {P : Program} {w : World} {K : PySem.W.Frag} {mg : Str → Option Value} {base : Heap}
/-- three lists: rooms, gongs, calls -/
structure Three (K : PySem.W.Frag) (H : Hp) (d l0 l1 l2 : Addr) (R : RD) : Prop where
  ed : H d = some (.dK [(Sum.inr (Str.ofString "room"), .ref l0), (Sum.inr (Str.ofString "gong"), .ref l1), (Sum.inr (Str.ofString "call"), .ref l2)])
  e0 : ∃ xs, H l0 = some (.lst xs) ∧ All2 (fun v r => Dp K H v (rmD r)) xs R.rooms
  e1 : ∃ xs, H l1 = some (.lst xs) ∧ All2 (fun v j => Dp K H v (jnD j)) xs R.gongs
  e2 : ∃ xs, H l2 = some (.lst xs) ∧ All2 (fun v j => Dp K H v (jnD j)) xs R.calls
theorem Three.same {H H' : Hp} {d l0 l1 l2 : Addr} {R : RD} (t : Three K H d l0 l1 l2 R) (s : Same H H') : Three K H' d l0 l1 l2 R :=
  ⟨s _ _ t.ed, let ⟨xs, e, a⟩ := t.e0; ⟨xs, s _ _ e, a.imp fun _ _ h => dp_same s h⟩, let ⟨xs, e, a⟩ := t.e1; ⟨xs, s _ _ e, a.imp fun _ _ h => dp_same s h⟩, let ⟨xs, e, a⟩ := t.e2; ⟨xs, s _ _ e, a.imp fun _ _ h => dp_same s h⟩⟩
theorem keep_upd {H0 H : Hp} {l : Addr} {o : HO} (s : Same H0 H) (n : H0 l = none) : Same H0 (upd H l o) := fun b u e => by
  rw [upd_ne (ne_of_none e n)]; exact s b u e
theorem Three.add0 {H : Hp} {d l0 l1 l2 : Addr} {R : RD} {xs : List V} {v : V} {r : Rm} (t : Three K H d l0 l1 l2 R) (n1 : l0 ≠ l1) (n2 : l0 ≠ l2) (e : H l0 = some (.lst xs)) (al : All2 (fun v r => Dp K H v (rmD r)) xs R.rooms) (h : Dp K H v (rmD r)) :
    Three K (upd H l0 (.lst (xs ++ [v]))) d l0 l1 l2 { R with rooms := R.rooms ++ [r] } := by
  have f : Fix H (upd H l0 (.lst (xs ++ [v]))) := Fix.lst e
  refine ⟨by rw [upd_ne (ne_of t.ed e (fun z => nomatch z))]; exact t.ed, ⟨_, upd_same, (al.imp fun _ _ h => dp_fix f (noL_rm _) h).app (.cons (dp_fix f (noL_rm _) h) .nil)⟩, ?_, ?_⟩
  · obtain ⟨ys, e1, a1⟩ := t.e1
    exact ⟨ys, by rw [upd_ne n1.symm]; exact e1, a1.imp fun _ _ h => dp_fix f (noL_jn _) h⟩
  · obtain ⟨ys, e1, a1⟩ := t.e2
    exact ⟨ys, by rw [upd_ne n2.symm]; exact e1, a1.imp fun _ _ h => dp_fix f (noL_jn _) h⟩
theorem Three.add1 {H : Hp} {d l0 l1 l2 : Addr} {R : RD} {xs : List V} {v : V} {j : Jn} (t : Three K H d l0 l1 l2 R) (n1 : l1 ≠ l0) (n2 : l1 ≠ l2) (e : H l1 = some (.lst xs)) (al : All2 (fun v r => Dp K H v (jnD r)) xs R.gongs) (h : Dp K H v (jnD j)) :
    Three K (upd H l1 (.lst (xs ++ [v]))) d l0 l1 l2 { R with gongs := R.gongs ++ [j] } := by
  have f : Fix H (upd H l1 (.lst (xs ++ [v]))) := Fix.lst e
  refine ⟨by rw [upd_ne (ne_of t.ed e (fun z => nomatch z))]; exact t.ed, ?_, ⟨_, upd_same, (al.imp fun _ _ h => dp_fix f (noL_jn _) h).app (.cons (dp_fix f (noL_jn _) h) .nil)⟩, ?_⟩
  · obtain ⟨ys, e1, a1⟩ := t.e0
    exact ⟨ys, by rw [upd_ne n1.symm]; exact e1, a1.imp fun _ _ h => dp_fix f (noL_rm _) h⟩
  · obtain ⟨ys, e1, a1⟩ := t.e2
    exact ⟨ys, by rw [upd_ne n2.symm]; exact e1, a1.imp fun _ _ h => dp_fix f (noL_jn _) h⟩
theorem Three.add2 {H : Hp} {d l0 l1 l2 : Addr} {R : RD} {xs : List V} {v : V} {j : Jn} (t : Three K H d l0 l1 l2 R) (n1 : l2 ≠ l0) (n2 : l2 ≠ l1) (e : H l2 = some (.lst xs)) (al : All2 (fun v r => Dp K H v (jnD r)) xs R.calls) (h : Dp K H v (jnD j)) :
    Three K (upd H l2 (.lst (xs ++ [v]))) d l0 l1 l2 { R with calls := R.calls ++ [j] } := by
  have f : Fix H (upd H l2 (.lst (xs ++ [v]))) := Fix.lst e
  refine ⟨by rw [upd_ne (ne_of t.ed e (fun z => nomatch z))]; exact t.ed, ?_, ?_, ⟨_, upd_same, (al.imp fun _ _ h => dp_fix f (noL_jn _) h).app (.cons (dp_fix f (noL_jn _) h) .nil)⟩⟩
  · obtain ⟨ys, e1, a1⟩ := t.e0
    exact ⟨ys, by rw [upd_ne n1.symm]; exact e1, a1.imp fun _ _ h => dp_fix f (noL_rm _) h⟩
  · obtain ⟨ys, e1, a1⟩ := t.e1
    exact ⟨ys, by rw [upd_ne n2.symm]; exact e1, a1.imp fun _ _ h => dp_fix f (noL_jn _) h⟩
def kv3 (l0 l1 l2 : Addr) : List (Key × V) := [(Sum.inr (Str.ofString "room"), .ref l0), (Sum.inr (Str.ofString "gong"), .ref l1), (Sum.inr (Str.ofString "call"), .ref l2)]
theorem kv_merge (l0 l1 l2 : Addr) : mergeK [] (kv3 l0 l1 l2) = kv3 l0 l1 l2 := by rfl
theorem kv_0 (l0 l1 l2 : Addr) : valV (kv3 l0 l1 l2) (Sum.inr (Str.ofString "room") : Key) = some (.ref l0) := by rfl
theorem kv_1 (l0 l1 l2 : Addr) : valV (kv3 l0 l1 l2) (Sum.inr (Str.ofString "gong") : Key) = some (.ref l1) := by rfl
theorem kv_2 (l0 l1 l2 : Addr) : valV (kv3 l0 l1 l2) (Sum.inr (Str.ofString "call") : Key) = some (.ref l2) := by rfl
theorem Three.get0 {H : Hp} {d l0 l1 l2 : Addr} {R : RD} (t : Three K H d l0 l1 l2 R) : DGet H d (.str (Str.ofString "room")) (some (.ref l0)) := .inl ⟨_, Sum.inr (Str.ofString "room"), .inl t.ed, rfl, (kv_0 l0 l1 l2).symm⟩
theorem Three.get1 {H : Hp} {d l0 l1 l2 : Addr} {R : RD} (t : Three K H d l0 l1 l2 R) : DGet H d (.str (Str.ofString "gong")) (some (.ref l1)) := .inl ⟨_, Sum.inr (Str.ofString "gong"), .inl t.ed, rfl, (kv_1 l0 l1 l2).symm⟩
theorem Three.get2 {H : Hp} {d l0 l1 l2 : Addr} {R : RD} (t : Three K H d l0 l1 l2 R) : DGet H d (.str (Str.ofString "call")) (some (.ref l2)) := .inl ⟨_, Sum.inr (Str.ofString "call"), .inl t.ed, rfl, (kv_2 l0 l1 l2).symm⟩
theorem may_in {last word : Str} (h : mayB last word = true) : word = Str.ofString "room" ∨ word = Str.ofString "gong" ∨ word = Str.ofString "call" := by
  unfold mayB at h
  rw [Bool.and_eq_true, decide_eq_true_eq] at h
  simpa [wds] using h.1
theorem in_wds {word : Str} (h : word = Str.ofString "room" ∨ word = Str.ofString "gong" ∨ word = Str.ofString "call") : word ∈ wds := by
  rcases h with rfl | rfl | rfl <;> simp [wds]
/-! ### read -/
abbrev s_Rooms_read : Stmt := inClass (top 22) 9
theorem sc_Rooms_read : FnScope ["text", "told", "last", "at", "row", "word", "_", "rest", "one"] ["text"] (defScope s_Rooms_read) := ⟨rfl, rfl, rfl, by decide +kernel, rfl, by decide +kernel, by decide +kernel⟩
def spRead (K : PySem.W.Frag) (C CR CT : Addr) : Sp := fun vs H Q E => ∃ (v : V) (d : PyData), vs = [v] ∧ Dp K H v d ∧ (strD d = false → ∀ dd H', Same H H' → H' dd = some (errH (-1)) → E (.ref CT) (some dd) H') ∧
  ∀ t, d = .str t → t.length ≤ 30000 ∧ (Txt.split t nl).length ≤ 100 ∧ (∀ x ∈ Txt.split t nl, x.length ≤ 900) ∧ (∀ k : Nat, rdText t = .inr k → ∀ dd H', Same H H' → H' dd = some (errH k) → E (.ref CT) (some dd) H') ∧
    ∀ R, rdText t = .inl R → (rmErr (.list (R.rooms.map rmD)) (.list (R.gongs.map jnD)) (.list (R.calls.map jnD)) = none → ∀ m H', Same H H' → RoomsAt K C H' m R → Q (.ref m) H') ∧
      ∀ k : Nat, rmErr (.list (R.rooms.map rmD)) (.list (R.gongs.map jnD)) (.list (R.calls.map jnD)) = some k → ∀ dd H', Same H H' → H' dd = some (errH k) → E (.ref CR) (some dd) H'
theorem ok_read {f C CR CT eg ec fT : Addr} {fd : FuncData} (F : Fun K "read" "Rooms.read" s_Rooms_read f fd) (T2 : ErrC K mg "InvalidText" CT fT) (M_Rooms : MkR P w K mg base C CR eg ec) (C_may_follow : Cl P w K mg base "may_follow" ["last", "word"] [] 1 spMay) (C_read_join : Cl P w K mg base "read_join" ["text"] [] 3 (spRdJoin K)) (C_read_room : Cl P w K mg base "read_room" ["text"] [] 2 (spRdRoom K)) (n_enumerate : mg "enumerate" = none) (n_isinstance : mg "isinstance" = none) (n_str : mg "str" = none) : FnOk P w K mg base (L2.CX P w) 7 f fd ["text"] (spRead K C CR CT) := by
  refine F.okX sc_Rooms_read (fun vs H Q E h => ?_) (fun cdv A outer s H vs Q E hr h => ?_)
  · obtain ⟨_, _, rfl, _⟩ := h
    rfl
  · obtain ⟨v, d, rfl, dv, no, yes⟩ := h
    refine ⟨_, (Evl.pss_cut (ps_if (pt_not (pt_val (pe_callB call_isi (by rfl) n_isinstance (by decide +kernel) (pa_cons (pv 0) (pa_cons (pe_bltn (v := .ty "str") (by rfl) n_str (by decide +kernel) rfl) pa_nil))))) (pss_one (ps_raiseAt rfl T2 hr (takes_of rfl rfl rfl rfl) (pa_cons (pe_un un_neg pe_int) pa_nil) rfl)) pss_nil)
    (pss_cons (ps_set (i := 1) sc_Rooms_read.nd rfl (Or.inl rfl) (pe_disp (pps_cons pe_str (pe_lst pa_nil) (pps_cons pe_str (pe_lst pa_nil) (pps_cons pe_str (pe_lst pa_nil) pps_nil))) (by rfl) (by rfl) (fun z => by cases z) (by decide)))
    (pss_cons (ps_set (i := 2) sc_Rooms_read.nd rfl (Or.inl rfl) pe_str)
    (Evl.pss_cut (ps_for (passes_of rfl) rfl (pi_enum (by rfl) n_enumerate (pa_cons (pe_split (pv 0) pe_str) pa_nil)) (pg_tup rfl (pgs_cons (pg_name (i := 3) sc_Rooms_read.nd rfl (Or.inl rfl)) (pgs_cons (pg_name (i := 4) sc_Rooms_read.nd rfl (Or.inl rfl)) pgs_nil)))
      (pss_cons (ps_asg (pe_partition (pv 4) pe_str) (pg_tup rfl (pgs_cons (pg_name (i := 5) sc_Rooms_read.nd rfl (Or.inl rfl)) (pgs_cons (pg_name (i := 6) sc_Rooms_read.nd rfl (Or.inl rfl)) (pgs_cons (pg_name (i := 7) sc_Rooms_read.nd rfl (Or.inl rfl)) pgs_nil)))))
    (Evl.pss_cut (ps_if (pt_not (pt_val (pe_use C_may_follow (hr.mono (by decide)) rfl (pa_cons (pv 2) (pa_cons (pv 5) pa_nil))))) (pss_one (ps_raiseAt rfl T2 hr (takes_of rfl rfl rfl rfl) (pa_cons (pv 3) pa_nil) rfl)) pss_nil)
    (Evl.pss_cut (ps_set (i := 8) sc_Rooms_read.nd rfl (Or.inl rfl) (pe_ifExp (pt_cmpR op_eq (pv 5) pe_str (nomark _)) (pe_use C_read_room (hr.mono (by decide)) rfl (pa_cons (pv 7) pa_nil)) (pe_use C_read_join (hr.mono (by decide)) rfl (pa_cons (pv 7) pa_nil))))
    (Evl.pss_cut (ps_if (pt_cmpR op_isN (pv 8) pe_non (nomark _)) (pss_one (ps_raiseAt rfl T2 hr (takes_of rfl rfl rfl rfl) (pa_cons (pv 3) pa_nil) rfl)) pss_nil)
    (pss_cons (ps_expr (pe_bm PySem.F.plainAttrs_list PySem.F.slot_list_append PySem.F.type_list_append mt_append (pe_dget (hu_of hr) (pv 1) (pv 5) (fun _ _ => rfl)) (pa_cons (pv 8) pa_nil)))
    (pss_one (ps_set (i := 2) sc_Rooms_read.nd rfl (Or.inl rfl) (pv 5)))))))))
    (pss_one (ps_ret (pe_mk3 M_Rooms hr (passes_call (takes_of rfl rfl rfl rfl) (fun _ _ _ _ h => h)) rfl (pa_cons (pe_dget (hu_of hr) (pv 1) pe_str (fun _ _ => rfl)) (pa_cons (pe_dget (hu_of hr) (pv 1) pe_str (fun _ _ => rfl)) (pa_cons (pe_dget (hu_of hr) (pv 1) pe_str (fun _ _ => rfl)) pa_nil)))))))))), ?_⟩
    have ty := ty_dp dv
    have kt := kit_str dv
    refine ⟨fun σ H' => ∃ t, v = .str t ∧ d = .str t ∧ σ = [some (.str t), none, none, none, none, none, none, none, none] ∧ H' = H, ?_, ?_⟩
    · refine ⟨_, rfl, _, .ty "str", _, _, _, rfl, .ty "str", ty, kt, _, rfl, ?_⟩
      cases dv with
      | str t => exact iteF ⟨t, rfl, rfl, rfl, rfl⟩
      | _ => exact iteT ⟨_, rfl, _, rfl, fun dd hn => no rfl dd _ (same_new hn _) upd_same⟩
    rintro σ H' ⟨t, rfl, rfl, rfl, rfl⟩
    obtain ⟨lt, lr, lx, bad, good⟩ := yes t rfl
    refine fun dd hd => ?_
    refine ⟨by show 0 ≤ sizeLine; decide, fun l0 h0 => ⟨by show 0 ≤ sizeLine; decide, fun l1 h1 => ⟨by show 0 ≤ sizeLine; decide, fun l2 h2 => ?_⟩⟩⟩
    have sa := same_new hd (.dK [])
    have ea : upd H' dd (.dK []) dd = some (.dK []) := upd_same
    generalize upd H' dd (.dK []) = Ha at *
    have sb := same_new h0 (.lst [])
    have eb : upd Ha l0 (.lst []) l0 = some (.lst []) := upd_same
    generalize upd Ha l0 (.lst []) = Hb at *
    have sc := same_new h1 (.lst [])
    have ec : upd Hb l1 (.lst []) l1 = some (.lst []) := upd_same
    generalize upd Hb l1 (.lst []) = Hc at *
    have sd := same_new h2 (.lst [])
    have ed : upd Hc l2 (.lst []) l2 = some (.lst []) := upd_same
    generalize upd Hc l2 (.lst []) = Hd at *
    have eb3 := sd _ _ (sc _ _ eb)
    have ec3 := sd _ _ ec
    have ea3 := sd _ _ (sc _ _ (sb _ _ ea))
    have n0 : H' l0 = none := none_back sa h0
    have n1 : H' l1 = none := none_back (sa.trans sb) h1
    have n2 : H' l2 = none := none_back ((sa.trans sb).trans sc) h2
    have d01 : l0 ≠ l1 := ne_of_none eb h1
    have d02 : l0 ≠ l2 := ne_of_none (sc _ _ eb) h2
    have d12 : l1 ≠ l2 := ne_of_none ec h2
    refine ⟨ea3, kv3 l0 l1 l2, rfl, by show 3 ≤ 15; decide, ?_⟩
    rw [kv_merge]
    have se : Same H' (upd Hd dd (.dK (kv3 l0 l1 l2))) := keep_upd (((sa.trans sb).trans sc).trans sd) hd
    have th : Three K (upd Hd dd (.dK (kv3 l0 l1 l2))) dd l0 l1 l2 ⟨[], [], []⟩ :=
      ⟨upd_same, ⟨[], by rw [upd_ne (ne_of eb3 ea3 (fun z => nomatch z))]; exact eb3, .nil⟩, ⟨[], by rw [upd_ne (ne_of ec3 ea3 (fun z => nomatch z))]; exact ec3, .nil⟩, ⟨[], by rw [upd_ne (ne_of ed ea3 (fun z => nomatch z))]; exact ed, .nil⟩⟩
    generalize upd Hd dd (.dK (kv3 l0 l1 l2)) = He at se th ⊢
    refine ⟨fun σ H1 => (∃ o2 o3 o4 o5 o6 o7 o8, σ = [some (.str t), some (.ref dd), o2, o3, o4, o5, o6, o7, o8]) ∧ Same H' H1 ∧ ∃ R, Three K H1 dd l0 l1 l2 R ∧ rdText t = .inl R ∧ RSz R 100, ?_, ?_⟩
    · refine ⟨_, rfl, ⟨_, rfl⟩, t, nl, rfl, rfl, rfl, by rw [sizeLine_eq]; omega, fun b hb => ?_⟩
      have sf := same_new hb (.lst ((Txt.split t nl).map V.str))
      have ebb : upd He b (.lst ((Txt.split t nl).map V.str)) b = some (.lst ((Txt.split t nl).map V.str)) := upd_same
      have th1 := th.same sf
      have nb0 : b ≠ l0 := by obtain ⟨_, e, _⟩ := th.e0; exact (ne_of_none e hb).symm
      have nb1 : b ≠ l1 := by obtain ⟨_, e, _⟩ := th.e1; exact (ne_of_none e hb).symm
      have nb2 : b ≠ l2 := by obtain ⟨_, e, _⟩ := th.e2; exact (ne_of_none e hb).symm
      generalize upd He b (.lst ((Txt.split t nl).map V.str)) = Hf at sf ebb th1 ⊢
      refine ⟨b, _, rfl, SqL.of ebb, ?_⟩
      refine for_en en_list (fun i σ H1 => (∃ last o3 o4 o5 o6 o7 o8, σ = [some (.str t), some (.ref dd), some (.str last), o3, o4, o5, o6, o7, o8] ∧ last ∈ wds ∧ ∃ R, Three K H1 dd l0 l1 l2 R ∧ rdText t = rdRows ((Txt.split t nl).drop i) last R i ∧ RSz R i) ∧ Same H' H1 ∧ H1 b = some (.lst ((Txt.split t nl).map V.str))) ⟨⟨_, none, none, none, none, none, none, rfl, in_wds (.inl rfl), _, th1, rfl, ⟨fun r h => (by cases h), Nat.le_refl _, Nat.le_refl _, Nat.le_refl _, fun r h => (by cases h), fun r h => (by cases h)⟩⟩, se.trans sf, ebb⟩ (fun i σ H1 pv => SqL.of pv.2.2) ?_ ?_
      · rintro i σ H1 y T ey ⟨⟨last, o3, o4, o5, o6, o7, o8, rfl, lw, R, tR, eR, zR⟩, s1, eb1⟩ hT
        obtain ⟨row, er, rfl⟩ := str_at ey
        have hi := (List.getElem?_eq_some_iff.mp er).1
        rw [List.drop_eq_getElem_cons hi, (List.getElem?_eq_some_iff.mp er).2] at eR
        have lrow := lx row (at_mem er)
        obtain ⟨p1, p3, p2⟩ := part_len (x := row) sp_ne
        have s2 := same_new hT (.tup [.int (i : Nat), .str row])
        refine ⟨T, _, rfl, SqT.of upd_same, rfl, _, _, rfl, _, _, rfl, rfl, ?_⟩
        generalize upd H1 T (.tup [.int (i : Nat), .str row]) = H2 at s2 ⊢
        refine ⟨_, rfl, ⟨_, rfl⟩, row, sp, rfl, rfl, rfl, by rw [sizeLine_eq]; omega, fun u hu => ?_⟩
        have s3 := same_new hu (.tup [V.str (Txt.partition row sp).1, .str (Txt.partition row sp).2.1, .str (Txt.partition row sp).2.2])
        refine ⟨u, _, rfl, SqT.of upd_same, rfl, _, _, rfl, _, _, rfl, _, _, rfl, rfl, ?_⟩
        generalize upd H2 u (.tup [V.str (Txt.partition row sp).1, .str (Txt.partition row sp).2.1, .str (Txt.partition row sp).2.2]) = H3 at s3 ⊢
        have s13 := s2.trans s3
        have eR : rdText t = if mayB last (Txt.partition row sp).1 = false then .inr i else if (Txt.partition row sp).1 = Str.ofString "room" then (match rdRoom (Txt.partition row sp).2.2 with
          | none => .inr i
          | some r => rdRows ((Txt.split t nl).drop (i + 1)) (Txt.partition row sp).1 { R with rooms := R.rooms ++ [r] } (i + 1)) else
          (match rdJoin (Txt.partition row sp).2.2 with
            | none => .inr i
            | some j => rdRows ((Txt.split t nl).drop (i + 1)) (Txt.partition row sp).1 (if (Txt.partition row sp).1 = gongS then { R with gongs := R.gongs ++ [j] } else { R with calls := R.calls ++ [j] }) (i + 1)) := eR
        generalize (Txt.partition row sp).1 = word at p1 eR ⊢
        generalize (Txt.partition row sp).2.2 = rst at p3 eR ⊢
        generalize (Txt.partition row sp).2.1 = blank at p2 ⊢
        refine ⟨fun σ H4 => σ = [some (.str t), some (.ref dd), some (.str last), some (.int (i : Nat)), some (.str row), some (.str word), some (.str blank), some (.str rst), o8] ∧ Same H1 H4 ∧ mayB last word = true, ?_, ?_⟩
        · refine ⟨_, rfl, _, rfl, last, word, rfl, lw, fun H4 s4 => ⟨_, rfl, ?_⟩⟩
          cases c : mayB last word with
          | true => exact iteF ⟨rfl, s13.trans s4, rfl⟩
          | false => exact iteT ⟨_, rfl, _, rfl, fun dd hn => bad i (by rw [eR, if_pos c]) dd _ (((s1.trans s13).trans s4).trans (same_new hn _)) upd_same⟩
        rintro σ H4 ⟨rfl, s4, mb⟩
        rw [if_neg (by rw [mb]; decide)] at eR
        have wd := may_in mb
        refine ⟨fun σ H5 => ∃ v, σ = [some (.str t), some (.ref dd), some (.str last), some (.int (i : Nat)), some (.str row), some (.str word), some (.str blank), some (.str rst), some v] ∧ Same H1 H5 ∧ ((rdText t = .inr i ∧ v = .non) ∨ (word = Str.ofString "room" ∧ ∃ r, rdRoom rst = some r ∧ Dp K H5 v (rmD r)) ∨ (word ≠ Str.ofString "room" ∧ ∃ j, rdJoin rst = some j ∧ Dp K H5 v (jnD j))), ?_, ?_⟩
        · refine ⟨_, rfl, rfl, _, rfl, ?_⟩
          show if decide (V.str word = V.str (Str.ofString "room")) = true then _ else _
          rw [eqStr]
          refine iteD (fun cw => ?_) fun cw => ?_
          · rw [if_pos cw] at eR
            refine ⟨_, rfl, rst, rfl, by omega, fun r hr v H5 s5 dv => ⟨v, rfl, s4.trans s5, .inr (.inl ⟨cw, r, hr, dv⟩)⟩, fun hr H5 s5 => ⟨.non, rfl, s4.trans s5, .inl ⟨by rw [eR, hr], rfl⟩⟩⟩
          · rw [if_neg cw] at eR
            refine ⟨_, rfl, rst, rfl, by omega, fun j hj v H5 s5 dv => ⟨v, rfl, s4.trans s5, .inr (.inr ⟨cw, j, hj, dv⟩)⟩, fun hj H5 s5 => ⟨.non, rfl, s4.trans s5, .inl ⟨by rw [eR, hj], rfl⟩⟩⟩
        rintro σ H5 ⟨v, rfl, s5, hv⟩
        refine ⟨fun σ H6 => σ = [some (.str t), some (.ref dd), some (.str last), some (.int (i : Nat)), some (.str row), some (.str word), some (.str blank), some (.str rst), some v] ∧ H6 = H5 ∧ ((word = Str.ofString "room" ∧ ∃ r, rdRoom rst = some r ∧ Dp K H5 v (rmD r)) ∨ (word ≠ Str.ofString "room" ∧ ∃ j, rdJoin rst = some j ∧ Dp K H5 v (jnD j))), ?_, ?_⟩
        · refine ⟨_, rfl, rfl, _, rfl, ?_⟩
          rcases hv with ⟨eb, rfl⟩ | hv
          · exact iteT ⟨_, rfl, _, rfl, fun dd hn => bad i eb dd _ ((s1.trans s5).trans (same_new hn _)) upd_same⟩
          · have nv : v ≠ .non := fun z => by
              subst z
              rcases hv with ⟨_, _, _, h⟩ | ⟨_, _, _, h⟩ <;> cases h
            show if decide (v = V.non) = true then _ else _
            rw [decide_eq_false nv]
            exact iteF ⟨rfl, rfl, hv⟩
        rintro σ H6 ⟨rfl, rfl, hv⟩
        have t6 := tR.same s5
        have eb6 := s5 _ _ eb1
        have s06 := s1.trans s5
        have ilt : i < 100 := by omega
        rcases hv with ⟨rfl, r, hr, dv⟩ | ⟨nw, j, hj, dv⟩
        · rw [if_pos rfl, hr] at eR
          obtain ⟨xs, e0, a0⟩ := t6.e0
          have lxs := a0.len
          refine ⟨_, rfl, _, rfl, dd, .ref l0, rfl, t6.get0, .inl ⟨rfl, _, SqL.of e0⟩, _, rfl, l0, xs, v, rfl, rfl, e0, ?_, _, rfl, ?_⟩
          · rw [lxs, sizeLine_eq]; have := zR.k; omega
          · refine ⟨⟨_, _, _, _, _, _, _, rfl, in_wds (.inl rfl), _, t6.add0 d01 d02 e0 a0 dv, eR, ⟨fun a ha => ?_, ?_, Nat.le_succ_of_le zR.g, Nat.le_succ_of_le zR.c, zR.ig, zR.ic⟩⟩, keep_upd s06 n0, by rw [upd_ne nb0]; exact eb6⟩
            · rcases List.mem_append.mp ha with ha | ha
              · exact zR.r a ha
              · rw [List.mem_singleton.mp ha]
                exact rdRoom_sm (by omega) hr
            · show (R.rooms ++ [r]).length ≤ i + 1
              rw [List.length_append]
              exact Nat.succ_le_succ zR.k
        · rw [if_neg nw, hj] at eR
          rcases wd with rfl | rfl | rfl
          · exact absurd rfl nw
          · obtain ⟨xs, e1, a1⟩ := t6.e1
            have lxs := a1.len
            refine ⟨_, rfl, _, rfl, dd, .ref l1, rfl, t6.get1, .inl ⟨rfl, _, SqL.of e1⟩, _, rfl, l1, xs, v, rfl, rfl, e1, ?_, _, rfl, ?_⟩
            · rw [lxs, sizeLine_eq]; have := zR.g; omega
            · refine ⟨⟨_, _, _, _, _, _, _, rfl, in_wds (.inr (.inl rfl)), _, t6.add1 d01.symm d12 e1 a1 dv, eR.trans (congrArg (fun R' => rdRows ((Txt.split t nl).drop (i + 1)) (Str.ofString "gong") R' (i + 1)) (if_pos (show Str.ofString "gong" = gongS from rfl))), ⟨zR.r, Nat.le_succ_of_le zR.k, ?_, Nat.le_succ_of_le zR.c, fun a ha => ?_, zR.ic⟩⟩, keep_upd s06 n1, by rw [upd_ne nb1]; exact eb6⟩
              · show (R.gongs ++ [j]).length ≤ i + 1
                rw [List.length_append]
                exact Nat.succ_le_succ zR.g
              · rcases List.mem_append.mp ha with ha | ha
                · exact zR.ig a ha
                · rw [List.mem_singleton.mp ha]
                  exact rdJoin_sm hj
          · obtain ⟨xs, e2, a2⟩ := t6.e2
            have lxs := a2.len
            have ng : ¬ Str.ofString "call" = gongS := by decide +kernel
            refine ⟨_, rfl, _, rfl, dd, .ref l2, rfl, t6.get2, .inl ⟨rfl, _, SqL.of e2⟩, _, rfl, l2, xs, v, rfl, rfl, e2, ?_, _, rfl, ?_⟩
            · rw [lxs, sizeLine_eq]; have := zR.c; omega
            · refine ⟨⟨_, _, _, _, _, _, _, rfl, in_wds (.inr (.inr rfl)), _, t6.add2 d02.symm d12.symm e2 a2 dv, eR.trans (congrArg (fun R' => rdRows ((Txt.split t nl).drop (i + 1)) (Str.ofString "call") R' (i + 1)) (if_neg ng)), ⟨zR.r, Nat.le_succ_of_le zR.k, Nat.le_succ_of_le zR.g, ?_, zR.ig, fun a ha => ?_⟩⟩, keep_upd s06 n2, by rw [upd_ne nb2]; exact eb6⟩
              · show (R.calls ++ [j]).length ≤ i + 1
                rw [List.length_append]
                exact Nat.succ_le_succ zR.c
              · rcases List.mem_append.mp ha with ha | ha
                · exact zR.ic a ha
                · rw [List.mem_singleton.mp ha]
                  exact rdJoin_sm hj
      · rintro σ H1 ⟨⟨last, o3, o4, o5, o6, o7, o8, rfl, lw, R, tR, eR, zR⟩, s1, eb1⟩
        rw [List.length_map, List.drop_length] at eR
        rw [List.length_map] at zR
        exact ⟨⟨_, _, _, _, _, _, _, rfl⟩, s1, R, tR, eR, ⟨zR.r, Nat.le_trans zR.k lr, Nat.le_trans zR.g lr, Nat.le_trans zR.c lr, zR.ig, zR.ic⟩⟩
    rintro σ H1 ⟨⟨o2, o3, o4, o5, o6, o7, o8, rfl⟩, s1, R, tR, eR, zR⟩
    obtain ⟨g1, g2⟩ := good R eR
    obtain ⟨x0, e0, a0⟩ := tR.e0
    obtain ⟨x1, e1, a1⟩ := tR.e1
    obtain ⟨x2, e2, a2⟩ := tR.e2
    refine ⟨_, rfl, dd, .ref l0, rfl, tR.get0, _, rfl, dd, .ref l1, rfl, tR.get1, _, rfl, dd, .ref l2, rfl, tR.get2, ?_⟩
    refine rd_make (dr := .list (R.rooms.map rmD)) (dg := .list (R.gongs.map jnD)) (dc := .list (R.calls.map jnD)) (.lst (SqL.of e0) (dpa_of (all2_mapR a0))) (.lst (SqL.of e1) (dpa_of (all2_mapR a1))) (.lst (SqL.of e2) (dpa_of (all2_mapR a2))) (fun e he => ?_) ⟨?_, fun e he => ?_⟩ ⟨?_, fun e he => ?_⟩ (fun ok m H2 s hm rm => g1 ok m H2 (s1.trans s) rm) fun k ek dd H2 s e => g2 k ek dd H2 (s1.trans s) e
    · obtain ⟨r, hr, rfl⟩ := List.mem_map.mp he
      exact zR.r r hr
    · show (R.gongs.map jnD).length ≤ 1000
      rw [List.length_map]; have := zR.g; omega
    · obtain ⟨r, hr, rfl⟩ := List.mem_map.mp he
      exact zR.ig r hr
    · show (R.calls.map jnD).length ≤ 1000
      rw [List.length_map]; have := zR.c; omega
    · obtain ⟨r, hr, rfl⟩ := List.mem_map.mp he
      exact zR.ic r hr
end
end R0

/-! sorted of a list of data: texts, ints, tuples of these; tuples of which the first is empty too -/
namespace PySem.SeqAt
open AutoSeq1 (wpAny_loadPart')
open MeetsSeq MeetsSeq2 MeetsSeq3 SeqRoads2
section
variable {A : Around} {s : Shared}
theorem call_tuple_lt {prog : Program} {w : World} {E : Value → Shared → Prop} {Q : Value → Shared → Prop} {l b : Addr} {items items2 : Array Value} {e r : Nat → Bool} (hl : s.heap.IsTuple l items) (hb : s.heap.IsTuple b items2)
    (he : ∀ j (h1 : j < items.size) (h2 : j < items2.size), EqAt A.in1 s items[j] items2[j] (e j)) (hr : ∀ j (h1 : j < items.size) (h2 : j < items2.size), e j = false → RcLt A.in1 s items[j] items2[j] (r j))
    (h : Q (.bool (firstLt e r (decide (items.size < items2.size)) (List.range (min items.size items2.size)))) s) : wpAny (model prog w) A (call (.builtin "tuple.__lt__") [.ref l, .ref b]) Q E s := by
  obtain ⟨⟨cls, dd, data, sl⟩, ho, hc, n, hd⟩ := id hl
  obtain ⟨⟨cls2, dd2, data2, sl2⟩, ho2, hc2, n2, hd2⟩ := id hb
  simp only at hc hd hc2 hd2
  subst hc hd hc2 hd2
  exact call_meets F.slot_tuple_lt ⟨_, ho, rfl⟩ F.entry_tuple_lt (F.args_tuple_lt_2 _ _) (tuple_ltAt l b items items2 n n2 dd dd2 sl sl2 e r) ⟨ho, ho2, he, hr, h⟩
end
end PySem.SeqAt
namespace PySem.W
open PySem PySem.Calls PyProof.Rows PySem.SeqAt
section
variable {prog : Program} {w : World} {A : Around} {E : Value → Shared → Prop} {s : Shared}
theorem oneLt_tup {xs ys : List PyData} {a b : Value} {as bs : List Addr} {Q : Bool → Shared → Prop} (ra : Reads s.heap a (.tuple xs) as) (rb : Reads s.heap b (.tuple ys) bs) (hal : alikeAll xs ys = true)
    (hu : A.units + min (PyData.depth (.tuple xs)) (PyData.depth (.tuple ys)) < cLine) (hq : Q (dataLt (.tuple xs) (.tuple ys)) s) : wpAny (model prog w) A (oneLt' true a b) Q E s := by
  cases ra with
  | @tuple l o vs n _ as₁ h1 h2 h3 h4 =>
    cases rb with
    | @tuple l' o' vs' n' _ bs₁ k1 k2 k3 k4 =>
      have n1 : vs.size = xs.length := by simpa using SeqAt.ReadsAll.length _ _ _ h4
      have n2 : vs'.size = ys.length := by simpa using SeqAt.ReadsAll.length _ _ _ k4
      rw [dataLt_tuple, ← firstLt_toks xs ys hal, ← n1, ← n2] at hq
      rw [oneLt'_eq]
      simp only [if_true]
      refine wpAny_bind (wpAny_cRoomFor (room_here hu) ?_)
      refine wpAny_bind (wpAny_callSpecialIfBound?_slot (T := "tuple") ⟨_, h1, h2⟩ F.slot_tuple_lt (call_tuple_lt (e := pairEq xs ys) (r := fun j => dataLt (xs.getD j .none) (ys.getD j .none)) ⟨_, h1, h2, _, h3⟩ ⟨_, k1, k2, _, k3⟩ (fun j j1 j2 => ?_) (fun j j1 j2 hj => ?_) ?_))
      · have := eqAt_alikeAll xs ys A.in1 s vs.toList vs'.toList _ _ h4 k4 hal (room_in hu) j (by simpa using j1) (by simpa using j2)
        simpa using this
      · have := rcLt_alikeAll xs ys A.in1 s vs.toList vs'.toList _ _ h4 k4 hal (room_in hu) j (by simpa using j1) (by simpa using j2) hj
        simpa using this
      · exact wpAny_truthy_bool hq
/-- tuples, the first of them empty -/
def Tup0 (ds : List PyData) : Prop := (∀ d, d ∈ ds → ∃ xs, d = .tuple xs) ∧ ∃ r, ds = .tuple [] :: r
theorem tup_firsts {M : Model} {ds : List PyData} : ∀ {vs : List Value} {ds : List PyData}, EachIs (fun v d => ∃ as, Reads s.heap v d as) vs ds → (∀ d, d ∈ ds → ∃ xs, d = .tuple xs) →
    ∃ fs : List (Option Value), fs.length = vs.length ∧ (∀ r, ds = .tuple [] :: r → fs[0]? = some none) ∧ ∀ {Q : List (Option Value) → Shared → Prop}, Q fs s → wpAny M A (vs.mapM firstOfTuple') Q E s
  | _, _, .nil, _ => ⟨[], rfl, fun r e => (by cases e), fun h => (by rw [List.mapM_nil]; exact wpAny_pure h)⟩
  | _, _, .cons (a := v) (b := d) ⟨as, r⟩ t, ht => by
    obtain ⟨fs, h1, h2, h3⟩ := tup_firsts (M := M) (ds := ds) t fun d hd => ht d (List.mem_cons_of_mem _ hd)
    obtain ⟨xs, rfl⟩ := ht d (List.mem_cons_self ..)
    cases r with
    | @tuple a o ys n _ _ ho hc hd hr =>
      refine ⟨ys[0]? :: fs, by rw [List.length_cons, List.length_cons, h1], fun r e => ?_, fun {Q} h => ?_⟩
      · cases e
        have : ys.toList = [] := by
          generalize ys.toList = l at hr
          cases hr; rfl
        have e2 : ys[0]? = none := by rw [← Array.getElem?_toList, this]; rfl
        rw [e2]; rfl
      · rw [List.mapM_cons]
        refine wpAny_bind ?_
        rw [kas_first_eq]
        refine wpAny_bind (Looks.here (show Looks M s.heap (typeOf (.ref a)) o.cls from (Looks.ld ho).andThen .now) ?_)
        rw [hc, if_neg (by first | decide | simp)]
        refine wpAny_bind (listItems_at ho hd (wpAny_pure ?_))
        exact wpAny_bind (h3 (Q := fun bs s' => wpAny M A (pure (ys[0]? :: bs)) Q E s') (wpAny_pure h))
theorem tup0_kind {M : Model} {vs : List Value} {ds : List PyData} {Q : SortKind → Shared → Prop} (e : EachIs (fun v d => ∃ as, Reads s.heap v d as) vs ds) (h0 : Tup0 ds) (h : Q oneType' s) :
    wpAny M A (keyKind' vs.toArray) Q E s := by
  obtain ⟨ht, r, er⟩ := h0
  obtain ⟨fs, h1, h2, h3⟩ := tup_firsts (M := M) (A := A) (E := E) (ds := ds) e ht
  have h2 := h2 r er
  have hne : vs ≠ [] := by
    rintro rfl
    have := e.length
    rw [er] at this
    simp at this
  rw [kat_kind_eq, List.mapM_toArray, map_eq_pure_bind]
  refine wpAny_bind (wpAny_bind (h3 (wpAny_pure ?_)))
  have hfs : ∃ fr, fs = none :: fr := by
    cases fs with
    | nil => simp at h2
    | cons x fr => simp at h2; subst h2; exact ⟨fr, rfl⟩
  obtain ⟨fr, rfl⟩ := hfs
  have hall : ((none :: fr : List (Option Value)).toArray.all fun x => x.isSome) = false := by simp
  rw [if_neg (by rw [hall]; decide)]
  have hf0 : (((none :: fr : List (Option Value)).toArray[0]?).bind id).isSome = false := by simp
  rw [if_neg (by rw [hf0]; decide)]
  have hT : ∀ v ∈ vs, Looks M s.heap (typeOf v) (.type "tuple") := fun v hv => by
    obtain ⟨d, hd, as, r⟩ := e.left v hv
    obtain ⟨xs, rfl⟩ := ht d hd
    exact looks_reads r
  obtain ⟨v₁, rest, rfl⟩ := List.exists_cons_of_ne_nil hne
  rw [oneTypeOnly'_eq, List.mapM_toArray, map_eq_pure_bind]
  refine wpAny_bind (wpAny_bind (wpAny_bind (kas_mapM (r := .type "tuple") _ (fun v hv Q' hq => (hT v hv).here hq) (wpAny_pure ?_))))
  have hall2 : ((List.map (fun _ => Value.type "tuple") (v₁ :: rest)).toArray.all fun x => x == Value.type "tuple") = true := by
    simp only [List.all_toArray, List.all_map, List.all_eq_true]
    intro _ _
    exact beq_self_eq_true _
  have h0 : (List.map (fun _ => Value.type "tuple") (v₁ :: rest)).toArray[0]? = some (Value.type "tuple") := by simp
  rw [h0]
  simp only [hall2, if_true]
  exact wpAny_pure (wpAny_pure h)
theorem SortsAt.tup0 {vs : List Value} {ds : List PyData} (e : EachIs (fun v d => ∃ as, Reads s.heap v d as) vs ds) (hal : AllAlike ds) (hk : Tup0 ds) (hu : ∀ d, d ∈ ds → A.units + d.depth < cLine) : SortsAt prog w A s (dataKind s.heap ds) vs := by
  have room : ∀ {d d' : PyData}, d ∈ ds → A.units + min d.depth d'.depth < cLine := fun {d d'} hd => Nat.lt_of_le_of_lt (Nat.add_le_add_left (Nat.min_le_left _ _) _) (hu d hd)
  refine ⟨fun v hv => ?_, oneType', ?_, fun h2 E Q hq => tup0_kind e hk hq⟩
  · obtain ⟨d, hd, as, r⟩ := e.left v hv
    exact ⟨_, dataKind_some hal hd r⟩
  · intro E x y a b Q ha hb hq
    obtain ⟨d, as, hd, ra, rfl⟩ := dataKind_inv ha
    obtain ⟨d', as', hd', rb, rfl⟩ := dataKind_inv hb
    rw [keyLt'_oneType]
    have hr := room (d' := d') hd
    have hdd := hal d hd d' hd'
    obtain ⟨xs, rfl⟩ := hk.1 d hd
    obtain ⟨ys, rfl⟩ := hk.1 d' hd'
    exact oneLt_tup ra rb (by simpa [alike] using hdd) hr hq
section
variable {β : Type} {vs : List Value} {bs : List β} {enc : β → PyData} {R : Value → β → Prop}
theorem sorted_dataT {l : Addr} {Q : Value → Shared → Prop} (hl : s.heap.IsList l vs.toArray) (e : EachIs R vs bs) (er : EachIs (fun v b => ∃ as, Reads s.heap v (enc b) as) vs bs) (hal : AllAlike (bs.map enc)) (hk : Sortable (bs.map enc) ∨ Tup0 (bs.map enc)) (hL : bs.length ≤ sizeLine)
    (hu : ∀ b, b ∈ bs → A.units + 2 + (enc b).depth < cLine) (h : ∀ out, out.length = bs.length → EachIs R out (bs.mergeSort (dataLe false enc)) → Q (.ref (s.heap.objs.size + 1)) { s with heap := sortedAll s.heap vs (List.toArray out) }) :
    wpAny (model prog w) A (call (.builtin "sorted") [.ref l]) Q E s := by
  rcases hk with hk | hk
  · exact sorted_data hl e er hal hk hL hu h
  have er' : EachIs (fun v b => ∃ as, Reads (sortingHeap (copyHeap s.heap vs) (s.heap.objs.size + 1) vs) v (enc b) as) vs bs := er.mono fun _ _ ⟨as, r⟩ => ⟨as, PyProof.Rows.Reads.keeps (fun _ _ => sorting_copy_old) r⟩
  exact sorted_vals hl (SortsAt.tup0 (s := { s with heap := sortingHeap (copyHeap s.heap vs) (s.heap.objs.size + 1) vs }) (each_map (R := fun v d => ∃ as, Reads (sortingHeap (copyHeap s.heap vs) (s.heap.objs.size + 1) vs) v d as) enc er') hal hk (bound_map hu)) (by rw [e.length]; exact hL)
    (h _ (by rw [sortVals_length false rfl]; exact e.length) (sortVals_data false e er' hal))
end
end
end PySem.W
namespace L2
open PySem PySem.Spec PyProof.Rows PySem.W
/-- sorted(xs), xs a list that reads as data (bs: the items, each with its datum): a new list -/
def rSortD (K : PySem.W.Frag) : List V → Hp → VK → Prop := fun vs H Q => ∃ (a : Addr) (bs : List (V × PyData)), vs = [V.ref a] ∧ SqL K H a (bs.map (·.1)) ∧ (∀ b ∈ bs, Dp K H b.1 b.2 ∧ b.2.depth ≤ 20) ∧ AllAlike (bs.map (·.2)) ∧ (Sortable (bs.map (·.2)) ∨ Tup0 (bs.map (·.2))) ∧
  ∀ p, H p = none → Q (.ref p) (upd H p (.lst ((bs.mergeSort (dataLe false (·.2))).map (·.1))))
theorem each_vals : ∀ {us : List Value} {bs : List (V × PyData)}, EachIs (fun u b => RelV b.1 u) us bs → Vals (bs.map (·.1)) us
  | _, _, .nil => .nil
  | _, _, .cons h t => .cons h (each_vals t)
theorem vals_each : ∀ {us : List Value} {bs : List (V × PyData)}, Vals (bs.map (·.1)) us → EachIs (fun u b => RelV b.1 u) us bs
  | _, [], h => by cases h; exact .nil
  | _, b :: bs, h => by cases h with | cons h1 h2 => exact .cons h1 (vals_each h2)
section
variable {X : Cx}
theorem cr_sortD (hu : X.A.units + 64 < cLine) : CallR X (.builtin "sorted") (rSortD X.K) := by
  intro pins s σ H vs us Q I r h
  obtain ⟨a, bs, rfl, hs, hx, hal, hk, q⟩ := h
  obtain ⟨its, rv, hl, hz⟩ := I.list hs
  obtain ⟨u, rfl, ru⟩ := vals1 r
  obtain rfl : u = Value.ref a := ru
  have e := vals_each rv
  have hm : ∀ {us : List Value} {cs : List (V × PyData)}, EachIs (fun u b => RelV b.1 u) us cs → (∀ b ∈ cs, b ∈ bs) → EachIs (fun v b => ∃ as, Reads s.heap v ((·.2) b) as) us cs := by
    intro us cs h
    induction h with
    | nil => intro _; exact .nil
    | cons h1 _ ih => intro hb; exact .cons (Dp.reads I _ _ _ (hx _ (hb _ (List.mem_cons_self ..))).1 h1) (ih fun b m => hb b (List.mem_cons_of_mem _ m))
  rw [List.length_map] at hz
  refine sorted_dataT (enc := (·.2)) hl.isList e (hm e fun _ h => h) hal hk hz (fun b hb => ?_) fun out ho eo => ?_
  · have := (hx b hb).2
    omega
  · obtain ⟨n, hn⟩ := sortedAll_at s.heap its out.toArray
    have hv := each_vals eo
    refine ⟨.ref (s.heap.objs.size + 1), upd H (s.heap.objs.size + 1) (.lst ((bs.mergeSort (dataLe false (·.2))).map (·.1))), I.laid (t' := s.toks) (fun _ _ => sortedAll_old) (Nat.le_succ _) ⟨?_, out, n, hv, hn⟩, rfl, q _ (I.hok.fresh (Nat.le_succ _))⟩
    rw [List.length_map, List.length_mergeSort]
    exact hz
end
end L2

/-! lots of names: their orders, all lots of some names, the least and the greatest of some -/
namespace Lo
open PySem PySem.Spec PyProof.Rows L2 St PySem.W
/-! ### orders -/
def lD (l : List Str) : PyData := .tuple (l.map .str)
def kD (l : List Str) : PyData := .tuple [.int (l.length : Nat), lD l]
def tokL (l : List Str) : List (Int ⊕ List Nat) := keyToksAll (l.map .str)
theorem tok_inj : ∀ {a b : List Str}, tokL a = tokL b → a = b
  | [], [], _ => rfl
  | [], b :: bs, h => by unfold tokL keyToksAll at h; simp at h
  | a :: as, [], h => by unfold tokL keyToksAll at h; simp at h
  | a :: as, b :: bs, h => by
    have h' : (Sum.inl 1 :: ([Sum.inr a.cps.toList] ++ tokL as) : List (Int ⊕ List Nat)) = Sum.inl 1 :: ([Sum.inr b.cps.toList] ++ tokL bs) := h
    simp only [List.cons_append, List.nil_append, List.cons.injEq, true_and, Sum.inr.injEq] at h'
    rw [str_of_cps h'.1, tok_inj h'.2]
section
variable {β : Type} {k : β → PyData}
theorem le_trans (a b c : β) (h : dataLe false k a b = true) (h2 : dataLe false k b c = true) : dataLe false k a c = true := by
  have e : ∀ x y : β, dataLe false k x y = !(lexLt itemOrd (keyToks (k y)) (keyToks (k x))) := fun _ _ => rfl
  rw [e, Bool.not_eq_true'] at h h2 ⊢
  cases q : lexLt itemOrd (keyToks (k c)) (keyToks (k a)) with
  | false => rfl
  | true =>
    rcases lex_negTrans (O := itemOrd) _ (keyToks (k b)) _ q with x | x
    · rw [h2] at x; cases x
    · rw [h] at x; cases x
theorem le_total (a b : β) : (dataLe false k a b || dataLe false k b a) = true := by
  have e : ∀ x y : β, dataLe false k x y = !(lexLt itemOrd (keyToks (k y)) (keyToks (k x))) := fun _ _ => rfl
  rw [e, e]
  cases q : lexLt itemOrd (keyToks (k b)) (keyToks (k a)) with
  | false => rfl
  | true =>
    cases q' : lexLt itemOrd (keyToks (k a)) (keyToks (k b)) with
    | false => rfl
    | true =>
      have := lex_trans (O := itemOrd) _ _ _ q q'
      rw [lex_irrefl] at this; cases this
theorem le_anti (inj : ∀ a b, keyToks (k a) = keyToks (k b) → a = b) {a b : β} (h : dataLe false k a b = true) (h2 : dataLe false k b a = true) : a = b := by
  have e : ∀ x y : β, dataLe false k x y = !(lexLt itemOrd (keyToks (k y)) (keyToks (k x))) := fun _ _ => rfl
  rw [e, Bool.not_eq_true'] at h h2
  exact inj a b (lex_total (O := itemOrd) _ _ h2 h)
theorem sort_uniq (inj : ∀ a b, keyToks (k a) = keyToks (k b) → a = b) {l m : List β} (p : l.Perm m) (hl : l.Pairwise (fun a b => dataLe false k a b = true)) : l = m.mergeSort (dataLe false k) :=
  List.Perm.eq_of_pairwise (fun _ _ _ _ h h2 => le_anti inj h h2) hl (List.pairwise_mergeSort le_trans le_total _) (p.trans (List.mergeSort_perm _ _).symm)
theorem sort_perm (inj : ∀ a b, keyToks (k a) = keyToks (k b) → a = b) {l m : List β} (p : l.Perm m) : l.mergeSort (dataLe false k) = m.mergeSort (dataLe false k) :=
  sort_uniq inj ((List.mergeSort_perm _ _).trans p) (List.pairwise_mergeSort le_trans le_total _)
end
theorem lD_inj (a b : List Str) (h : keyToks (lD a) = keyToks (lD b)) : a = b := tok_inj h
theorem kD_inj (a b : List Str) (h : keyToks (kD a) = keyToks (kD b)) : a = b := by
  have e : ∀ l : List Str, keyToks (kD l) = Sum.inl 1 :: ([Sum.inl ((l.length : Nat) : Int)] ++ (Sum.inl 1 :: (tokL l ++ [Sum.inl 0]))) := fun _ => rfl
  rw [e, e] at h
  simp only [List.cons_append, List.nil_append, List.cons.injEq, true_and] at h
  exact tok_inj (List.append_cancel_right h.2)
def lle : List Str → List Str → Bool := dataLe false lD
def kle : List Str → List Str → Bool := dataLe false kD
theorem alike_strs : ∀ a b : List Str, alikeAll (a.map .str) (b.map .str) = true
  | [], _ => by simp [alikeAll]
  | _ :: _, [] => by simp [alikeAll]
  | x :: xs, y :: ys => by
    show alikeAll (.str x :: xs.map .str) (.str y :: ys.map .str) = true
    rw [alikeAll, alike_strs xs ys]
    simp [alike]
theorem alike_lD (a b : List Str) : alike (lD a) (lD b) = true := by
  show alike (.tuple _) (.tuple _) = true
  unfold alike
  exact alike_strs a b
theorem alike_kD (a b : List Str) : alike (kD a) (kD b) = true := by
  show alike (.tuple [_, _]) (.tuple [_, _]) = true
  rw [alike, alikeAll, alikeAll, alikeAll, alike_lD]
  simp [alike]
theorem kle_len {a b : List Str} (h : kle a b = true) : a.length ≤ b.length := by
  unfold kle at h
  rw [dataLe_eq] at h
  have h : (!dataLt (kD b) (kD a)) = true := h
  rw [Bool.not_eq_true'] at h
  unfold kD at h
  rw [dataLt_pair (by simp [alike]) (alike_lD _ _), dataLt_int] at h
  by_cases c : b.length = a.length
  · omega
  · have e : PyData.eqv (.int ((b.length : Nat) : Int)) (.int ((a.length : Nat) : Int)) = false := by
      simp only [PyData.eqv, beq_eq_false_iff_ne, ne_eq]
      omega
    rw [e] at h
    simp at h
    omega
theorem lle_nil (a : List Str) : lle [] a = true := by
  unfold lle
  rw [dataLe_eq]
  show (!dataLt (lD a) (lD [])) = true
  rw [Bool.not_eq_true']
  cases a with
  | nil => exact lex_irrefl (O := itemOrd) _
  | cons x r =>
    show lexLt itemOrd (Sum.inl 1 :: ([Sum.inr x.cps.toList] ++ tokL r)) [Sum.inl 0] = false
    rw [lex_diff (O := itemOrd) (by simp)]
    rfl
/-! ### all lots -/
def growP (ls : List (List Str)) (n : Str) : List (List Str) := ls ++ ls.map (· ++ [n])
/-- all lots of names, one name after another -/
def LL (ns : List Str) : List (List Str) := ns.foldl growP [[]]
theorem mem_growP : ∀ (ns : List Str) (pre : List Str) (q : List (List Str)), (∀ x, x ∈ q ↔ x.Sublist pre) → ∀ x, x ∈ ns.foldl growP q ↔ x.Sublist (pre ++ ns)
  | [], pre, q, h, x => by simpa using h x
  | n :: ns, pre, q, h, x => by
    rw [List.foldl_cons, mem_growP ns (pre ++ [n]) (growP q n) fun y => ?_]
    · rw [List.append_assoc]; rfl
    · unfold growP
      rw [List.mem_append, h y, List.mem_map]
      constructor
      · rintro (z | ⟨z, hz, rfl⟩)
        · exact z.trans (List.sublist_append_left _ _)
        · exact List.Sublist.append ((h z).mp hz) (List.Sublist.refl _)
      · intro z
        obtain ⟨a, b, rfl, h1, h2⟩ := List.sublist_append_iff.mp z
        rcases List.sublist_cons_iff.mp h2 with h3 | ⟨r, rfl, h3⟩
        · obtain rfl := List.eq_nil_of_sublist_nil h3
          exact .inl (by simpa using h1)
        · obtain rfl := List.eq_nil_of_sublist_nil h3
          exact .inr ⟨a, (h a).mpr h1, rfl⟩
theorem mem_LL {ns x : List Str} : x ∈ LL ns ↔ x.Sublist ns := by
  have := mem_growP ns [] [[]] (fun x => by simp) x
  rwa [List.nil_append] at this
theorem nodup_growP : ∀ (ns : List Str) (q : List (List Str)), ns.Nodup → q.Nodup → (∀ x ∈ q, ∀ n ∈ ns, n ∉ x) → (ns.foldl growP q).Nodup
  | [], q, _, h, _ => h
  | n :: ns, q, nd, h, f => by
    obtain ⟨n1, n2⟩ := List.nodup_cons.mp nd
    refine nodup_growP ns (growP q n) n2 ?_ fun x hx m hm => ?_
    · unfold growP
      refine List.nodup_append.mpr ⟨h, List.pairwise_map.mpr (h.imp fun ne e => ne (List.append_cancel_right e)), fun a ha b hb e => ?_⟩
      obtain ⟨c, hc, rfl⟩ := List.mem_map.mp hb
      exact f a ha n (List.mem_cons_self ..) (by rw [e]; exact List.mem_append_right _ (List.mem_singleton.mpr rfl))
    · unfold growP at hx
      rcases List.mem_append.mp hx with hx | hx
      · exact f x hx m (List.mem_cons_of_mem _ hm)
      · obtain ⟨c, hc, rfl⟩ := List.mem_map.mp hx
        intro z
        rcases List.mem_append.mp z with z | z
        · exact f c hc m (List.mem_cons_of_mem _ hm) z
        · rw [List.mem_singleton.mp z] at hm
          exact n1 hm
theorem nodup_LL {ns : List Str} (nd : ns.Nodup) : (LL ns).Nodup := nodup_growP ns [[]] nd (by simp) (by simp)
theorem growP_len : ∀ (ns : List Str) (q : List (List Str)), (ns.foldl growP q).length = q.length * 2 ^ ns.length
  | [], q => by simp
  | n :: ns, q => by
    rw [List.foldl_cons, growP_len ns]
    unfold growP
    simp only [List.length_append, List.length_map, List.length_cons]
    rw [Nat.pow_succ, Nat.mul_comm (2 ^ ns.length) 2, ← Nat.mul_assoc]
    congr 1
    omega
theorem LL_len {ns : List Str} (h : ns.length ≤ 4) : (LL ns).length ≤ 16 := by
  have := growP_len ns [[]]
  have h2 : 2 ^ ns.length ≤ 2 ^ 4 := Nat.pow_le_pow_right (by decide) h
  unfold LL
  simp at this
  omega
theorem growP_head : ∀ (ns : List Str) (q : List (List Str)), (∃ r, q = [] :: r) → ∃ r, ns.foldl growP q = [] :: r
  | [], _, h => h
  | n :: ns, q, ⟨r, e⟩ => growP_head ns _ ⟨r ++ q.map (· ++ [n]), by unfold growP; rw [e]; rfl⟩
/-- lots_among: sorted(lots)[1:] -/
def LA (ns : List Str) : List (List Str) := ((LL (lotS ns)).mergeSort lle).drop 1
theorem LA_prog (ns : List Str) : (LL (lotS ns)).mergeSort lle = [] :: LA ns := by
  obtain ⟨r, e⟩ := growP_head (lotS ns) [[]] ⟨[], rfl⟩
  have e : LL (lotS ns) = [] :: r := e
  have s : ([] :: r.mergeSort lle : List (List Str)) = (LL (lotS ns)).mergeSort lle := by
    refine sort_uniq lD_inj ?_ (List.pairwise_cons.mpr ⟨fun a _ => lle_nil a, List.pairwise_mergeSort le_trans le_total _⟩)
    rw [e]
    exact List.Perm.cons _ (List.mergeSort_perm _ _)
  unfold LA
  rw [← s]; rfl
/-- ordered_lots -/
def OL (ns : List Str) : List (List Str) := (LL (lotS ns)).mergeSort kle
theorem OL_prog (ns : List Str) : ([] :: LA ns).mergeSort kle = OL ns := by
  rw [← LA_prog]
  exact sort_perm kD_inj (List.mergeSort_perm _ _)
theorem mem_OL {ns x : List Str} : x ∈ OL ns ↔ x.Sublist (lotS ns) := (List.mergeSort_perm _ _).mem_iff.trans mem_LL
theorem nodup_OL (ns : List Str) : (OL ns).Nodup := (List.mergeSort_perm _ _).nodup_iff.mpr (nodup_LL (asc_nodupS (asc_lotS ns)))
theorem OL_congr {ns ms : List Str} (h : ∀ x, x ∈ ns ↔ x ∈ ms) : OL ns = OL ms := by unfold OL; rw [lotS_congr h]
theorem OL_asc (ns : List Str) : (OL ns).Pairwise (fun a b => kle a b = true) := List.pairwise_mergeSort le_trans le_total _
/-! ### part of -/
def prt (xs ys : List Str) : Bool := xs.all fun x => decide (x ∈ ys)
theorem prt_iff {xs ys : List Str} : prt xs ys = true ↔ ∀ x ∈ xs, x ∈ ys := by
  unfold prt
  rw [List.all_eq_true]
  exact ⟨fun h x m => of_decide_eq_true (h x m), fun h x m => decide_eq_true (h x m)⟩
theorem nodup_len {α : Type} [DecidableEq α] : ∀ {l m : List α}, l.Nodup → (∀ x ∈ l, x ∈ m) → l.length ≤ m.length
  | [], _, _, _ => Nat.zero_le _
  | x :: l, m, nd, h => by
    obtain ⟨n1, n2⟩ := List.nodup_cons.mp nd
    have ih := nodup_len (l := l) (m := m.erase x) n2 fun y hy => (List.mem_erase_of_ne (show y ≠ x from fun z => n1 (by rw [← z]; exact hy))).mpr (h y (List.mem_cons_of_mem _ hy))
    have e := List.length_erase_of_mem (h x (List.mem_cons_self ..))
    have p := List.length_pos_of_mem (h x (List.mem_cons_self ..))
    rw [List.length_cons]; omega
theorem asc_part {x y : List Str} (ax : x.Pairwise sLt) (ay : y.Pairwise sLt) (h : prt x y = true) (l : y.length ≤ x.length) : x = y := by
  have nx := asc_nodupS ax
  refine (lotS_eq ax fun z => ⟨prt_iff.mp h z, fun hz => ?_⟩).trans (lotS_eq ay fun _ => Iff.rfl).symm
  refine Decidable.byContradiction fun nz => ?_
  have := nodup_len (l := z :: x) (m := y) (List.nodup_cons.mpr ⟨nz, nx⟩) fun w hw => by
    rcases List.mem_cons.mp hw with rfl | hw
    · exact hz
    · exact prt_iff.mp h w hw
  rw [List.length_cons] at this
  omega
theorem prt_trans {x y z : List Str} (h : prt x y = true) (k : prt y z = true) : prt x z = true := prt_iff.mpr fun a m => prt_iff.mp k a (prt_iff.mp h a m)
/-! ### what is kept of a row, one after another -/
section
variable {α : Type} (R : α → α → Bool) (p : α → Bool)
def keepF (L : List α) : List α := L.foldl (fun ks x => if !(ks.any fun y => R y x) && p x then ks ++ [x] else ks) []
variable [DecidableEq α]
def minB (L : List α) (x : α) : Bool := p x && L.all fun y => !(p y && (R y x && !decide (y = x)))
variable {R p}
theorem keepF_snoc (L : List α) (x : α) : keepF R p (L ++ [x]) = if !((keepF R p L).any fun y => R y x) && p x then keepF R p L ++ [x] else keepF R p L := by
  unfold keepF; rw [List.foldl_append]; rfl
theorem keepF_mem : ∀ {L : List α} {x : α}, x ∈ keepF R p L → x ∈ L ∧ p x = true := fun {L} => by
  have : ∀ (r : List α) (x : α), x ∈ keepF R p r.reverse → x ∈ r.reverse ∧ p x = true := fun r => by
    induction r with
    | nil => intro x h; cases h
    | cons a r ih =>
      intro x h
      rw [List.reverse_cons, keepF_snoc] at h
      split at h
      · rename_i c
        rcases List.mem_append.mp h with h | h
        · exact ⟨by rw [List.reverse_cons]; exact List.mem_append_left _ (ih x h).1, (ih x h).2⟩
        · rw [List.mem_singleton.mp h]
          rw [Bool.and_eq_true] at c
          exact ⟨by rw [List.reverse_cons]; exact List.mem_append_right _ (List.mem_singleton.mpr rfl), c.2⟩
      · exact ⟨by rw [List.reverse_cons]; exact List.mem_append_left _ (ih x h).1, (ih x h).2⟩
  intro x h
  have := this L.reverse x (by rwa [List.reverse_reverse])
  rwa [List.reverse_reverse] at this
/-- each wanted one has a kept one below it -/
theorem keepF_below (tr : ∀ x y z, R x y = true → R y z = true → R x z = true) : ∀ (r : List α) (x : α), x ∈ r.reverse → p x = true → ∃ y ∈ keepF R p r.reverse, y = x ∨ R y x = true
  | [], x, h, _ => by cases h
  | a :: r, x, h, hp => by
    rw [List.reverse_cons] at h ⊢
    rw [keepF_snoc]
    rcases List.mem_append.mp h with h | h
    · obtain ⟨y, m, c⟩ := keepF_below tr r x h hp
      refine ⟨y, ?_, c⟩
      split
      · exact List.mem_append_left _ m
      · exact m
    · obtain rfl := List.mem_singleton.mp h
      cases c : (keepF R p r.reverse).any fun y => R y x with
      | true =>
        obtain ⟨y, m, e⟩ := List.any_eq_true.mp c
        rw [if_neg (by simp)]
        exact ⟨y, m, .inr e⟩
      | false =>
        rw [if_pos (by rw [hp]; rfl)]
        exact ⟨x, List.mem_append_right _ (List.mem_singleton.mpr rfl), .inl rfl⟩
theorem keepF_rev (tr : ∀ x y z, R x y = true → R y z = true → R x z = true) : ∀ (r : List α), r.Nodup → r.reverse.Pairwise (fun a b => R b a = false) → keepF R p r.reverse = r.reverse.filter (minB R p r.reverse)
  | [], _, _ => rfl
  | a :: r, nd, pw => by
    rw [List.reverse_cons] at pw ⊢
    obtain ⟨n1, n2⟩ := List.nodup_cons.mp nd
    obtain ⟨p1, _, p3⟩ := List.pairwise_append.mp pw
    have ih := keepF_rev tr r n2 p1
    rw [keepF_snoc, List.filter_append]
    have e1 : r.reverse.filter (minB R p (r.reverse ++ [a])) = r.reverse.filter (minB R p r.reverse) := List.filter_congr fun x hx => by
      unfold minB
      rw [List.all_append]
      have : ([a].all fun y => !(p y && (R y x && !decide (y = x)))) = true := by
        rw [List.all_cons, p3 x hx a (List.mem_singleton.mpr rfl)]
        simp
      rw [this, Bool.and_true]
    rw [e1, ← ih]
    have e2 : minB R p (r.reverse ++ [a]) a = (!((keepF R p r.reverse).any fun y => R y a) && p a) := by
      unfold minB
      rw [List.all_append]
      have : ([a].all fun y => !(p y && (R y a && !decide (y = a)))) = true := by simp
      rw [this, Bool.and_true, Bool.and_comm]
      cases hp : p a with
      | false => rw [Bool.and_false, Bool.and_false]
      | true =>
        rw [Bool.and_true, Bool.and_true, Bool.eq_iff_iff, List.all_eq_true, Bool.not_eq_true', List.any_eq_false]
        constructor
        · intro h y m z
          obtain ⟨m1, m2⟩ := keepF_mem m
          have := h y m1
          rw [m2, z] at this
          simp at this
          rw [this] at m1
          exact n1 (List.mem_reverse.mp m1)
        · intro h y m
          cases hy : p y with
          | false => rfl
          | true =>
            cases hr : R y a with
            | false => rfl
            | true =>
              obtain ⟨z, mz, c⟩ := keepF_below (p := p) tr r y m hy
              exfalso
              rcases c with rfl | c
              · exact h z mz hr
              · exact h z mz (tr z y a c hr)
    rw [← e2]
    cases c : minB R p (r.reverse ++ [a]) a with
    | true => rw [if_pos rfl, List.filter_cons_of_pos c]; rfl
    | false => rw [if_neg (by simp), List.filter_cons_of_neg (by rw [c]; simp)]; simp
theorem keepF_eq (tr : ∀ x y z, R x y = true → R y z = true → R x z = true) {L : List α} (nd : L.Nodup) (pw : L.Pairwise fun a b => R b a = false) : keepF R p L = L.filter (minB R p L) := by
  have := keepF_rev (p := p) tr L.reverse ((List.reverse_perm L).nodup_iff.mpr nd) (by rwa [List.reverse_reverse])
  rwa [List.reverse_reverse] at this
theorem minB_perm {L M : List α} (h : L.Perm M) (x : α) : minB R p L x = minB R p M x := by
  unfold minB
  congr 1
  rw [Bool.eq_iff_iff, List.all_eq_true, List.all_eq_true]
  exact ⟨fun q y m => q y (h.mem_iff.mpr m), fun q y m => q y (h.mem_iff.mp m)⟩
end
/-- the law's: those of the wanted in which no other wanted one lies -/
def minsF {α : Type} [DecidableEq α] (R : α → α → Bool) (ls : List α) : List α := ls.filter fun x => !(ls.any fun y => !decide (y = x) && R y x)
theorem mins_filter {α : Type} [DecidableEq α] {R : α → α → Bool} {p : α → Bool} (L : List α) : minsF R (L.filter p) = L.filter (minB R p L) := by
  unfold minsF
  rw [List.filter_filter]
  refine List.filter_congr fun x _ => ?_
  unfold minB
  rw [Bool.and_comm]
  congr 1
  rw [Bool.eq_iff_iff, Bool.not_eq_true', List.any_eq_false, List.all_eq_true]
  constructor
  · intro h y m
    cases hy : p y with
    | false => rfl
    | true =>
      have := h y (List.mem_filter.mpr ⟨m, hy⟩)
      cases hr : R y x with
      | false => rfl
      | true =>
        rw [hr] at this
        simp at this
        simp [this]
  · intro h y m
    obtain ⟨m1, m2⟩ := List.mem_filter.mp m
    have := h y m1
    rw [m2] at this
    cases hr : R y x with
    | false => simp
    | true =>
      rw [hr] at this
      simp at this
      simp [this]
/-- least_ones over the ordered lots, and the law's least -/
theorem least_eq {ns : List Str} {p : List Str → Bool} : keepF prt p (OL ns) = (minsF prt ((LL (lotS ns)).filter p)).mergeSort kle := by
  have asc : ∀ x ∈ OL ns, x.Pairwise sLt := fun x m => (asc_lotS ns).sublist (mem_OL.mp m)
  have pw : (OL ns).Pairwise fun a b => prt b a = false := by
    have h := (OL_asc ns).and (nodup_OL ns)
    refine h.imp_of_mem fun {a b} ma mb ⟨h1, h2⟩ => ?_
    rw [Bool.eq_false_iff]
    intro z
    exact h2 (asc_part (asc b mb) (asc a ma) z (kle_len h1)).symm
  rw [keepF_eq (R := prt) (fun x y z h k => prt_trans h k) (nodup_OL ns) pw, mins_filter]
  refine sort_uniq kD_inj ?_ ((OL_asc ns).filter _)
  rw [show (LL (lotS ns)).filter (minB prt p (LL (lotS ns))) = (LL (lotS ns)).filter (minB prt p (OL ns)) from List.filter_congr fun x _ => minB_perm (List.mergeSort_perm _ _).symm x]
  exact (List.mergeSort_perm _ _).filter _
def trp (x y : List Str) : Bool := prt y x
theorem great_keep {ns : List Str} {p : List Str → Bool} : keepF trp p (OL ns).reverse = (OL ns).reverse.filter (minB trp p (OL ns).reverse) := by
  have asc : ∀ x ∈ OL ns, x.Pairwise sLt := fun x m => (asc_lotS ns).sublist (mem_OL.mp m)
  have pw : (OL ns).reverse.Pairwise fun a b => trp b a = false := by
    rw [List.pairwise_reverse]
    have h := (OL_asc ns).and (nodup_OL ns)
    refine h.imp_of_mem fun {a b} ma mb ⟨h1, h2⟩ => ?_
    show prt b a = false
    rw [Bool.eq_false_iff]
    intro z
    exact h2 (asc_part (asc b mb) (asc a ma) z (kle_len h1)).symm
  exact keepF_eq (R := trp) (fun x y z a b => prt_trans (x := z) (y := y) (z := x) b a) ((List.reverse_perm _).nodup_iff.mpr (nodup_OL ns)) pw
/-- greatest_ones over the ordered lots, and the law's greatest -/
theorem greatest_eq {ns : List Str} {p : List Str → Bool} : (keepF trp p (OL ns).reverse).mergeSort lle = (minsF trp ((LL (lotS ns)).filter p)).mergeSort lle := by
  have asc : ∀ x ∈ OL ns, x.Pairwise sLt := fun x m => (asc_lotS ns).sublist (mem_OL.mp m)
  have pw : (OL ns).reverse.Pairwise fun a b => trp b a = false := by
    rw [List.pairwise_reverse]
    have h := (OL_asc ns).and (nodup_OL ns)
    refine h.imp_of_mem fun {a b} ma mb ⟨h1, h2⟩ => ?_
    show prt b a = false
    rw [Bool.eq_false_iff]
    intro z
    exact h2 (asc_part (asc b mb) (asc a ma) z (kle_len h1)).symm
  rw [keepF_eq (R := trp) (fun x y z a b => prt_trans (x := z) (y := y) (z := x) b a) ((List.reverse_perm _).nodup_iff.mpr (nodup_OL ns)) pw, mins_filter]
  refine sort_perm lD_inj ?_
  have pm : (OL ns).reverse.Perm (LL (lotS ns)) := (List.reverse_perm _).trans (List.mergeSort_perm _ _)
  rw [show (LL (lotS ns)).filter (minB trp p (LL (lotS ns))) = (LL (lotS ns)).filter (minB trp p (OL ns).reverse) from List.filter_congr fun x _ => minB_perm pm.symm x]
  exact pm.filter _
end Lo

namespace R0
open PySem PySem.Spec PyProof.Rows L2 Hb St Sq Ow En Zp RZ Rd Xb Da Wa
theorem zip_fst {α β : Type} {R : α → β → Prop} {as : List α} {bs : List β} (h : All2 R as bs) : (as.zip bs).map (·.1) = as := by
  induction h with
  | nil => rfl
  | cons _ _ ih => simpa using ih
theorem zip_snd {α β : Type} {R : α → β → Prop} {as : List α} {bs : List β} (h : All2 R as bs) : (as.zip bs).map (·.2) = bs := by
  induction h with
  | nil => rfl
  | cons _ _ ih => simpa using ih
theorem zip_mem {α β : Type} {R : α → β → Prop} {as : List α} {bs : List β} (h : All2 R as bs) : ∀ z ∈ as.zip bs, R z.1 z.2 ∧ z.2 ∈ bs := by
  induction h with
  | nil => intro z hz; cases hz
  | cons r _ ih =>
    intro z hz
    rw [List.zip_cons_cons] at hz
    rcases List.mem_cons.mp hz with rfl | hz
    · exact ⟨r, List.mem_cons_self ..⟩
    · exact ⟨(ih z hz).1, List.mem_cons_of_mem _ (ih z hz).2⟩
theorem all2_maps {α β γ : Type} {R : α → β → Prop} {f : γ → α} {g : γ → β} : ∀ {zs : List γ}, (∀ z ∈ zs, R (f z) (g z)) → All2 R (zs.map f) (zs.map g)
  | [], _ => .nil
  | z :: zs, h => .cons (h z (List.mem_cons_self ..)) (all2_maps fun y hy => h y (List.mem_cons_of_mem _ hy))
theorem srt_pairs {γ : Type} {enc : γ → PyData} {R : V → γ → Prop} {its : List V} {gs : List γ} (al : All2 R its gs) : All2 R ((((its.zip gs).map fun z => (z.1, enc z.2)).mergeSort (PySem.W.dataLe false (·.2))).map (·.1)) (gs.mergeSort (PySem.W.dataLe false enc)) := by
  let f : V × γ → V × PyData := fun z => (z.1, enc z.2)
  let r : V × γ → V × γ → Bool := fun a b => PySem.W.dataLe false enc a.2 b.2
  have m1 : ((its.zip gs).map f).mergeSort (PySem.W.dataLe false (·.2)) = ((its.zip gs).mergeSort r).map f := (List.map_mergeSort (f := f) (r := r) fun a _ b _ => rfl).symm
  have m2 : gs.mergeSort (PySem.W.dataLe false enc) = ((its.zip gs).mergeSort r).map (·.2) := by
    conv => lhs; rw [← zip_snd al]
    exact (List.map_mergeSort (f := fun z : V × γ => z.2) (r := r) fun a _ b _ => rfl).symm
  rw [m1, m2, List.map_map]
  exact all2_maps fun z hz => (zip_mem al z ((List.mergeSort_perm _ _).mem_iff.mp hz)).1
theorem sort_all {γ : Type} {enc : γ → PyData} {R : V → γ → Prop} {K : PySem.W.Frag} {H : Hp} {a : Addr} {its : List V} {gs : List γ} {Q : VK} (e : H a = some (.lst its)) (al : All2 R its gs) (dp : ∀ v g, R v g → Dp K H v (enc g)) (dep : ∀ g ∈ gs, (enc g).depth ≤ 20)
    (alk : ∀ x y, PySem.W.alike (enc x) (enc y) = true) (hk : PySem.W.Sortable (gs.map enc) ∨ PySem.W.Tup0 (gs.map enc)) (q : ∀ p its' H', Same H H' → H' p = some (.lst its') → All2 R its' (gs.mergeSort (PySem.W.dataLe false enc)) → Q (.ref p) H') : rSortD K [.ref a] H Q := by
  let f : V × γ → V × PyData := fun z => (z.1, enc z.2)
  have e1 : ((its.zip gs).map f).map (·.1) = its := by rw [List.map_map]; exact zip_fst al
  have e2 : ((its.zip gs).map f).map (·.2) = gs.map enc := by
    rw [List.map_map]
    conv => rhs; rw [← zip_snd al]
    rw [List.map_map]; rfl
  refine ⟨a, (its.zip gs).map f, rfl, SqL.of (by rw [e1]; exact e), fun b hb => ?_, ?_, by rw [e2]; exact hk, fun p hp => ?_⟩
  · obtain ⟨z, hz, rfl⟩ := List.mem_map.mp hb
    obtain ⟨r, m⟩ := zip_mem al z hz
    exact ⟨dp _ _ r, dep _ m⟩
  · rw [e2]
    intro d hd d' hd'
    obtain ⟨x, _, rfl⟩ := List.mem_map.mp hd
    obtain ⟨y, _, rfl⟩ := List.mem_map.mp hd'
    exact alk x y
  · exact q p _ _ (same_new hp _) upd_same (srt_pairs al)

theorem sort_fact {γ : Type} {enc : γ → PyData} {R : V → γ → Prop} {K : PySem.W.Frag} {H : Hp} {its : List V} {gs : List γ} (al : All2 R its gs) (dp : ∀ v g, R v g → Dp K H v (enc g)) (dep : ∀ g ∈ gs, (enc g).depth ≤ 20)
    (alk : ∀ x y, PySem.W.alike (enc x) (enc y) = true) (hk : PySem.W.Sortable (gs.map enc)) : ∃ bs : List (V × PyData), bs.map (·.1) = its ∧ (∀ b ∈ bs, Dp K H b.1 b.2 ∧ b.2.depth ≤ 20) ∧ PySem.W.AllAlike (bs.map (·.2)) ∧ PySem.W.Sortable (bs.map (·.2)) ∧ All2 R ((bs.mergeSort (PySem.W.dataLe false (·.2))).map (·.1)) (gs.mergeSort (PySem.W.dataLe false enc)) := by
  let f : V × γ → V × PyData := fun z => (z.1, enc z.2)
  have e1 : ((its.zip gs).map f).map (·.1) = its := by rw [List.map_map]; exact zip_fst al
  have e2 : ((its.zip gs).map f).map (·.2) = gs.map enc := by
    rw [List.map_map]
    conv => rhs; rw [← zip_snd al]
    rw [List.map_map]; rfl
  refine ⟨(its.zip gs).map f, e1, fun b hb => ?_, ?_, by rw [e2]; exact hk, srt_pairs al⟩
  · obtain ⟨z, hz, rfl⟩ := List.mem_map.mp hb
    obtain ⟨r, m⟩ := zip_mem al z hz
    exact ⟨dp _ _ r, dep _ m⟩
  · rw [e2]
    intro d hd d' hd'
    obtain ⟨x, _, rfl⟩ := List.mem_map.mp hd
    obtain ⟨y, _, rfl⟩ := List.mem_map.mp hd'
    exact alk x y
theorem alike_ls (a b : List Str) : PySem.W.alike (lsD a) (lsD b) = true := Lo.alike_strs a b
/-! ### lots -/
def bellsL : List Str := [Str.ofString "ding", Str.ofString "dong", Str.ofString "tick"]
def fnd : Nat → List Lot
  | 0 => [[]]
  | i + 1 => fnd i ++ (fnd i).map fun l => l ++ [bellsL.getD i Str.empty]
theorem fnd_len : ∀ i, i < 3 → ∀ l ∈ fnd i, l.length ≤ 3 := by decide +kernel
def lots7 : List Lot := [[Str.ofString "ding"], [Str.ofString "ding", Str.ofString "dong"], [Str.ofString "ding", Str.ofString "dong", Str.ofString "tick"], [Str.ofString "ding", Str.ofString "tick"], [Str.ofString "dong"], [Str.ofString "dong", Str.ofString "tick"], [Str.ofString "tick"]]
theorem lsD_inj (a b : Lot) (h : PySem.W.keyToks (lsD a) = PySem.W.keyToks (lsD b)) : a = b := Lo.tok_inj h
theorem sort_lots : (fnd 3).mergeSort (PySem.W.dataLe false lsD) = [] :: lots7 := by
  refine (Lo.sort_uniq lsD_inj ?_ ?_).symm
  · decide +kernel
  · decide +kernel
def LsNew (H0 H : Hp) (v : V) (l : Lot) : Prop := ∃ b, v = .ref b ∧ H0 b = none ∧ H b = some (.lst (l.map V.str))
theorem LsNew.same {H0 H H' : Hp} {v : V} {l : Lot} (h : LsNew H0 H v l) (s : Same H H') : LsNew H0 H' v l := let ⟨b, e, n, h⟩ := h; ⟨b, e, n, s _ _ h⟩
theorem dep_lsD (l : Lot) : (lsD l).depth ≤ 20 := by
  have : ∀ l : List Str, PyData.depthAll (l.map PyData.str) = 0 := fun l => by
    induction l with
    | nil => rfl
    | cons x r ih => show max 0 (PyData.depthAll (r.map PyData.str)) = 0; rw [ih]; rfl
  show PyData.depthAll (l.map PyData.str) + 1 ≤ 20
  rw [this]; decide
section
variable {P : Program} {w : World} {K : PySem.W.Frag} {mg : Str → Option Value} {base : Heap}
/-! ### _law_lots -/
abbrev s__law_lots : Stmt := top 33
theorem sc__law_lots : FnScope ["some", "found", "one", "lot"] ["some"] (defScope s__law_lots) := ⟨rfl, rfl, rfl, by decide +kernel, rfl, by decide +kernel, by decide +kernel⟩
def spLots (K : PySem.W.Frag) : Sp := fun vs H Q _ => ∃ a : Addr, vs = [.ref a] ∧ H a = some (.lst (bellsL.map V.str)) ∧ ∀ q xs H', Same H H' → H q = none → H' q = some (.lst xs) → All2 (LsNew H H') xs lots7 → Q (.ref q) H'
theorem ok_lots {f : Addr} {fd : FuncData} (F : Fun K "_law_lots" "_law_lots" s__law_lots f fd) (n_sorted : mg "sorted" = none) : FnOk P w K mg base CX0 1 f fd ["some"] (spLots K) := by
  refine F.ok sc__law_lots (fun vs H Q E h => ?_) (fun cdv A outer s H vs Q E hr h => ?_)
  · obtain ⟨_, rfl, _⟩ := h
    rfl
  · obtain ⟨a, rfl, ea, q⟩ := h
    refine ⟨_, (pss_cons (ps_set (i := 1) sc__law_lots.nd rfl (Or.inl rfl) (pe_lst (pa_cons (pe_lst pa_nil) pa_nil)))
    (Evl.pss_cut (ps_for PassesOwn.never rfl (pi_seq (pv 0)) (pg_name (i := 2) sc__law_lots.nd rfl (Or.inr rfl))
      (pss_one (ps_set (i := 1) sc__law_lots.nd rfl (Or.inl rfl) (pe_op op_cat (pv 1) (pe_lc (own := [("lot", 3)]) (g := gName 3) rfl sc__law_lots.nd (pi_seq (pv 1)) (blkOk_by (N := ["some", "found", "one", "lot"]) (sc := defScope s__law_lots) (by decide +kernel)) (fun _ _ _ _ _ => pg_name (i := 3) sc__law_lots.nd rfl (Or.inl rfl)) (fun _ _ _ _ _ => pts_nil) (fun _ _ _ _ _ => pe_op op_cat (pv 3) (pe_lst (pa_cons (pv 2) pa_nil))))))))
    (pss_one (ps_ret (pe_slice (r := rSlL K) sl_list (pe_callB (cr_sortD hr.units) (by rfl) n_sorted (by decide +kernel) (pa_cons (pv 1) pa_nil)) (po_some pe_int) po_none))))), ?_⟩
    refine ⟨by show 0 ≤ sizeLine; decide, fun b hb => ⟨by show 1 ≤ sizeLine; decide, fun f0 hf => ?_⟩⟩
    have s1 := same_new hb (.lst [])
    have eb : upd H b (.lst []) b = some (.lst []) := upd_same
    generalize upd H b (.lst []) = H1 at *
    have s2 := same_new hf (.lst [V.ref b])
    have ef : upd H1 f0 (.lst [V.ref b]) f0 = some (.lst [V.ref b]) := upd_same
    generalize upd H1 f0 (.lst [V.ref b]) = H2 at *
    have s12 := s1.trans s2
    refine ⟨fun σ H' => ∃ f1 o2 xs, σ = [some (.ref a), some (.ref f1), o2, none] ∧ Same H H' ∧ H' f1 = some (.lst xs) ∧ All2 (LsNew H H') xs (fnd 3), ?_, ?_⟩
    · refine ⟨_, rfl, a, _, rfl, SqX.lst (s12 _ _ ea), fun J S W s0 => ?_⟩
      refine for_sq W (fun i σ H' => ∃ f1 o2 xs, σ = [some (.ref a), some (.ref f1), o2, none] ∧ Same H2 H' ∧ H' f1 = some (.lst xs) ∧ All2 (LsNew H H') xs (fnd i)) ⟨f0, none, _, rfl, Same.refl _, ef, .cons ⟨b, rfl, hb, s2 _ _ eb⟩ .nil⟩ (fun i σ H' pv => by obtain ⟨_, _, _, _, s, _⟩ := pv; exact W.keep (fun o e => s _ _ e) s0) ?_ ?_
      · rintro i σ H3 y ey ⟨f1, o2, xs, rfl, s3, e1, al⟩
        obtain ⟨x, ex, rfl⟩ := str_at ey
        have s13 := s12.trans s3
        refine ⟨_, rfl, _, rfl, f1, xs, rfl, SqX.lst e1, fun J2 S2 W2 z0 D hD => ?_⟩
        have l4 : (fnd i).length ≤ 8 := by
          have hi := (List.getElem?_eq_some_iff.mp ex).1
          have hi : i < 3 := hi
          match i, hi with
          | 0, _ => decide
          | 1, _ => decide
          | 2, _ => decide
        have l5 := al.len
        refine lc_mf (ds := fnd i) W2 (fun _ => true) (fun H y l => ∃ b, y = .ref b ∧ b ≠ D ∧ H3 b = none ∧ H b = some (.lst ((l ++ [x]).map V.str))) z0 hD al.len (fun j y l H4 ey' el s m => ?_) (fun H4 ys s e al2 => ?_)
        · obtain ⟨l', el', c, rfl, nc, hc⟩ := al.get ey'
          obtain rfl : l' = l := Option.some.inj (el'.symm.trans el)
          refine ⟨rfl, _, rfl, _, rfl, by show 1 ≤ sizeLine; decide, fun u hu => ?_⟩
          have s4 := same_new hu (.lst [V.str x])
          have lc : l'.length ≤ 3 := fnd_len i (List.getElem?_eq_some_iff.mp ex).1 l' (at_mem el)
          refine ⟨c, u, _, _, rfl, rfl, s4 _ _ (s _ _ hc), upd_same, by rw [List.length_map, sizeLine_eq]; show l'.length + 1 ≤ _; omega, fun p hp => ?_⟩
          obtain ⟨acc, ea2, _⟩ := m.acc
          have n4 : H4 p = none := none_back s4 hp
          refine mfk_yes m hD (fun _ _ _ _ k n => let ⟨b, e, n, h0, h⟩ := n; ⟨b, e, n, h0, k _ _ h n⟩) el (by omega) (s4.trans (same_new hp _)) rfl ⟨p, rfl, (ne_of_none ea2 n4).symm, none_back s n4, ?_⟩
          rw [upd_same, List.map_append]; rfl
        · rw [Rd.filter_all] at al2
          have l6 := al2.len
          refine ⟨f1, D, _, _, rfl, rfl, s _ _ e1, e, by rw [sizeLine_eq]; omega, fun p hp => ?_⟩
          have s5 := same_new hp (.lst (xs ++ ys))
          refine ⟨p, _, xs ++ ys, rfl, (s3.trans s).trans s5, upd_same, ?_⟩
          show All2 _ (xs ++ ys) (fnd i ++ (fnd i).map fun l => l ++ [bellsL.getD i Str.empty])
          have ex2 : bellsL.getD i Str.empty = x := by rw [List.getD_eq_getElem?_getD, ex]; rfl
          rw [ex2]
          exact (al.imp fun _ _ h => (h.same s).same s5).app (all2_mapR (al2.imp fun _ _ h => let ⟨b, e, _, h0, hh⟩ := h; ⟨b, e, none_back s13 h0, s5 _ _ hh⟩))
      · rintro σ H3 ⟨f1, o2, xs, rfl, s3, e1, al⟩
        exact ⟨f1, o2, xs, rfl, s12.trans s3, e1, al⟩
    rintro σ H3 ⟨f1, o2, xs, rfl, s3, e1, al⟩
    obtain ⟨bs, b1, b2, b3, b4, b5⟩ := sort_fact (K := K) (enc := lsD) al (fun v g r => by
      obtain ⟨b, e, _, h⟩ := r
      rw [e]
      exact .lst (SqL.of h) (dp_strs g)) (fun g _ => dep_lsD g) (fun x y => alike_ls x y) (.inr fun d hd => by
        obtain ⟨l, _, rfl⟩ := List.mem_map.mp hd
        exact ⟨fun z => (nomatch z), fun xs z => (nomatch z)⟩)
    rw [sort_lots] at b5
    refine ⟨_, rfl, f1, bs, rfl, SqL.of (by rw [b1]; exact e1), b2, b3, .inl b4, fun p hp => ?_⟩
    have s4 := same_new hp (.lst ((bs.mergeSort (PySem.W.dataLe false (·.2))).map (·.1)))
    refine ⟨1, rfl, p, _, rfl, SqL.of upd_same, fun p2 hp2 => ?_⟩
    have ep : upd H3 p (.lst ((bs.mergeSort (PySem.W.dataLe false (·.2))).map (·.1))) p = some (.lst ((bs.mergeSort (PySem.W.dataLe false (·.2))).map (·.1))) := upd_same
    generalize upd H3 p (.lst ((bs.mergeSort (PySem.W.dataLe false (·.2))).map (·.1))) = H4 at *
    generalize (bs.mergeSort (PySem.W.dataLe false (·.2))).map (·.1) = L at *
    cases b5 with
    | @cons v0 _ vs _ h0 hr =>
      have s5 := same_new hp2 (.lst (cutV (v0 :: vs) (some 1) none))
      have e5 : upd H4 p2 (.lst (cutV (v0 :: vs) (some 1) none)) p2 = some (.lst vs) := by rw [upd_same, cut1]
      have s05 := (s3.trans s4).trans s5
      exact q p2 vs _ s05 (none_back (s3.trans s4) hp2) e5 (hr.imp fun _ _ h => (h.same s4).same s5)
end
end R0

namespace R0
open PySem PySem.Spec PyProof.Rows L2 Hb St Sq Ow En Zp RZ Rd Xb Da Wa
/-- a list of typed data -/
def ListAt {α : Type} (K : PySem.W.Frag) (H : Hp) (q : Addr) (f : α → PyData) (l : List α) : Prop := ∃ xs, H q = some (.lst xs) ∧ All2 (fun v a => Dp K H v (f a)) xs l
theorem ListAt.same {α : Type} {K : PySem.W.Frag} {H H' : Hp} {q : Addr} {f : α → PyData} {l : List α} (h : ListAt K H q f l) (s : Same H H') : ListAt K H' q f l := let ⟨xs, e, a⟩ := h; ⟨xs, s _ _ e, a.imp fun _ _ d => dp_same s d⟩
theorem ListAt.dp {α : Type} {K : PySem.W.Frag} {H : Hp} {q : Addr} {f : α → PyData} {l : List α} (h : ListAt K H q f l) : Dp K H (.ref q) (.list (l.map f)) := let ⟨xs, e, a⟩ := h; .lst (SqL.of e) (dpa_of (all2_mapR a))
theorem deal_ne {H : Hp} {p l q : Addr} (d : DealAt H p l) (h : H q = none) : q ≠ p ∧ q ≠ l := by
  obtain ⟨ns, b, h1, h2, _⟩ := d
  exact ⟨fun z => (by rw [z, h1] at h; cases h), fun z => (by rw [z, h2] at h; cases h)⟩
theorem deal_upd {H : Hp} {p l q : Addr} {o : HO} (d : DealAt H p l) (n1 : q ≠ p) (n2 : q ≠ l) : DealAt (upd H q o) p l := by
  obtain ⟨ns, b, h1, h2, h3⟩ := d
  exact ⟨ns, b, by rw [upd_ne n1.symm]; exact h1, by rw [upd_ne n2.symm]; exact h2, h3⟩
theorem all2_memL {α β : Type} {R : α → β → Prop} {as : List α} {bs : List β} (h : All2 R as bs) {x : α} (m : x ∈ as) : ∃ y, y ∈ bs ∧ R x y := by
  induction h with
  | nil => cases m
  | cons r _ ih =>
    rcases List.mem_cons.mp m with rfl | m
    · exact ⟨_, List.mem_cons_self .., r⟩
    · obtain ⟨y, hy, e⟩ := ih m
      exact ⟨y, List.mem_cons_of_mem _ hy, e⟩
def stepsR (rs : List Rm) : List Stp := rs.flatMap fun r => (List.range r.2.length).map fun i : Nat => (r.1, ((i : Nat) : Int) + 1)
theorem stepsR_app (rs : List Rm) (a : Rm) : stepsR (rs ++ [a]) = stepsR rs ++ (List.range a.2.length).map fun i : Nat => (a.1, ((i : Nat) : Int) + 1) := by
  unfold stepsR
  rw [List.flatMap_append, List.flatMap_cons, List.flatMap_nil, List.append_nil]
theorem stepsR_len (rs : List Rm) (h : ∀ a ∈ rs, a.2.length ≤ 10) (i : Nat) : (stepsR (rs.take i)).length ≤ 10 * rs.length := by
  have : ∀ l : List Rm, (∀ a ∈ l, a.2.length ≤ 10) → (stepsR l).length ≤ 10 * l.length := by
    intro l
    induction l with
    | nil => intro _; exact Nat.le_refl _
    | cons a l ih =>
      intro h
      have e : stepsR (a :: l) = ((List.range a.2.length).map fun i : Nat => (a.1, ((i : Nat) : Int) + 1)) ++ stepsR l := rfl
      have := h a (List.mem_cons_self ..)
      have := ih fun x hx => h x (List.mem_cons_of_mem _ hx)
      rw [e, List.length_append, List.length_map, List.length_range, List.length_cons]
      omega
  have h1 := this (rs.take i) fun a ha => h a (List.mem_of_mem_take ha)
  have h2 := List.length_take_le' i rs
  omega
section
variable {P : Program} {w : World} {K : PySem.W.Frag} {mg : Str → Option Value} {base : Heap}
/-! ### _law_tale -/
abbrev s__law_tale : Stmt := top 34
theorem sc__law_tale : FnScope ["deal", "many", "lots", "turn"] ["deal", "many"] (defScope s__law_tale) := ⟨rfl, rfl, rfl, by decide +kernel, rfl, by decide +kernel, by decide +kernel⟩
def spTale (K : PySem.W.Frag) : Sp := fun vs H Q _ => ∃ (p l : Addr) (many : Int), vs = [.ref p, .int many] ∧ DealAt H p l ∧ 0 ≤ many ∧ many ≤ 3 ∧ ∀ v H' (t : Tale), Kept2 p l H H' → DealAt H' p l → Dp K H' v (tD t) → (t.length : Int) = many → (∀ a ∈ t, a ∈ lots7) → Q v H'
theorem ok_ltale {f : Addr} {fd : FuncData} (F : Fun K "_law_tale" "_law_tale" s__law_tale f fd) (C__law_lots : Cl P w K mg base "_law_lots" ["some"] [] 1 (spLots K)) (C__law_pick : Cl P w K mg base "_law_pick" ["deal", "some"] [] 2 (spPick K)) (n_range : mg "range" = none) (n_tuple : mg "tuple" = none) : FnOk P w K mg base CX0 3 f fd ["deal", "many"] (spTale K) := by
  refine F.ok sc__law_tale (fun vs H Q E h => ?_) (fun cdv A outer s H vs Q E hr h => ?_)
  · obtain ⟨_, _, _, rfl, _⟩ := h
    rfl
  · obtain ⟨p, l, many, rfl, dl, m0, m3, q⟩ := h
    refine ⟨_, (pss_cons (ps_set (i := 2) sc__law_tale.nd rfl (Or.inr rfl) (pe_use C__law_lots (hr.mono (by decide)) rfl (pa_cons (pe_lst (pa_cons pe_str (pa_cons pe_str (pa_cons pe_str pa_nil)))) pa_nil)))
    (pss_one (ps_ret (pe_callTy call_tuple_of (by rfl) n_tuple (by decide +kernel) (pa_cons (pe_lc (own := [("turn", 3)]) (g := gName 3) rfl sc__law_tale.nd (pi_range1 (by rfl) n_range (pa_cons (pv 1) pa_nil)) (blkOk_by (N := ["deal", "many", "lots", "turn"]) (sc := defScope s__law_tale) (by decide +kernel)) (fun _ _ _ _ _ => pg_name (i := 3) sc__law_tale.nd rfl (Or.inl rfl)) (fun _ _ _ _ _ => pts_nil) (fun _ _ _ _ _ => pe_callTy (T := "tuple") (r := rTupE K) call_tupE (by rfl) n_tuple (by decide +kernel) (pa_cons (pe_use C__law_pick (hr.mono (by decide)) rfl (pa_cons (pv 0) (pa_cons (pv 2) pa_nil))) pa_nil))) pa_nil))))), ?_⟩
    refine ⟨by show 3 ≤ sizeLine; decide, fun b hb => ?_⟩
    have s1 := same_new hb (.lst (bellsL.map V.str))
    have eb : upd H b (.lst (bellsL.map V.str)) b = some (.lst (bellsL.map V.str)) := upd_same
    generalize e0 : upd H b (.lst (bellsL.map V.str)) = H1 at *
    rw [show upd H b (.lst [V.str (Str.ofString "ding"), .str (Str.ofString "dong"), .str (Str.ofString "tick")]) = H1 from e0]
    refine ⟨b, rfl, eb, fun q0 xs H2 s2 hq0 eq0 al => ?_⟩
    have d1 := dl.same s1
    have d2 := d1.same s2
    have nq := deal_ne d1 hq0
    refine ⟨_, rfl, many, rfl, by omega, by omega, fun D hD => ?_⟩
    have nD := deal_ne d2 hD
    have nqD : q0 ≠ D := ne_of_none eq0 hD
    refine lc_range (lo := 0) (n := many.toNat) (fun i H' => Kept2 p l H2 H' ∧ DealAt H' p l ∧ ∃ (ys : List V) (t : Tale), H' D = some (.lst ys) ∧ All2 (fun v a => Dp K H' v (lD a)) ys t ∧ t.length = i ∧ ∀ a ∈ t, a ∈ lots7) ?_ ?_ ?_
    · exact ⟨Kept2.same (same_new hD _), deal_upd d2 nD.1 nD.2, [], [], upd_same, .nil, rfl, fun _ h => nomatch h⟩
    · rintro i H3 hi ⟨k3, d3, ys, t, eD, at3, lt, mt⟩
      refine ⟨rfl, _, rfl, _, rfl, p, l, q0, xs, rfl, d3, fun H' k => SqX.lst (k _ _ (k3 _ _ eq0 nq.1 nq.2) nq.1 nq.2), ⟨by rw [al.len]; decide, by rw [al.len]; decide⟩, fun x H4 hx k4 d4 => ?_⟩
      obtain ⟨a, ha, c, rfl, nc, hc⟩ := all2_memL al hx
      obtain ⟨n1, n2⟩ := deal_ne d1 nc
      have hc4 := k4 _ _ (k3 _ _ hc n1 n2) n1 n2
      have eD4 := k4 _ _ eD nD.1 nD.2
      refine ⟨c, _, rfl, .inl ⟨SqL.of hc4, fun u hu => ?_⟩⟩
      have s5 := same_new hu (.tup (a.map V.str))
      have eD5 := s5 _ _ eD4
      have fx : Fix H3 (upd (upd H4 u (.tup (a.map V.str))) D (.lst (ys ++ [V.ref u]))) := ((k4.fix d3).trans (Fix.of s5)).trans (Fix.lst eD5)
      have nu : u ≠ D := (ne_of_none eD4 hu).symm
      refine ⟨ys, eD5, by rw [at3.len, lt, sizeLine_eq]; omega, fun b o e h1 h2 => ?_, deal_upd (d4.same s5) nD.1 nD.2, ys ++ [V.ref u], t ++ [a], upd_same, (at3.imp fun _ _ h => dp_fix fx (noL_lD _) h).app (.cons (.tup (SqT.of (by rw [upd_ne nu]; exact upd_same)) (dp_strs a)) .nil), by rw [List.length_append, lt]; rfl, fun z hz => ?_⟩
      · rw [upd_ne (ne_of_none e hD)]
        exact s5 _ _ (k4 _ _ (k3 _ _ e h1 h2) h1 h2)
      · rcases List.mem_append.mp hz with hz | hz
        · exact mt z hz
        · obtain rfl := List.mem_singleton.mp hz
          exact ha
    · rintro H3 ⟨k3, d3, ys, t, eD, at3, lt, mt⟩
      refine ⟨D, ys, rfl, .inl ⟨SqL.of eD, fun u hu => ?_⟩⟩
      have s5 := same_new hu (.tup ys)
      exact q (.ref u) _ t (((Kept2.same (s1.trans s2)).trans k3).trans (Kept2.same s5)) (d3.same s5) (.tup (SqT.of upd_same) (dpa_of (all2_mapR (at3.imp fun _ _ h => dp_fix (Fix.of s5) (noL_lD _) h)))) (by rw [lt]; omega) mt
/-! ### _law_steps -/
abbrev s__law_steps : Stmt := top 35
theorem sc__law_steps : FnScope ["rooms", "found", "name", "tale", "at"] ["rooms"] (defScope s__law_steps) := ⟨rfl, rfl, rfl, by decide +kernel, rfl, by decide +kernel, by decide +kernel⟩
def spSteps (K : PySem.W.Frag) : Sp := fun vs H Q _ => ∃ (r : Addr) (rs : List Rm), vs = [.ref r] ∧ ListAt K H r rmD rs ∧ rs.length ≤ 10 ∧ (∀ a ∈ rs, a.2.length ≤ 10) ∧ ∀ q H', Same H H' → H q = none → ListAt K H' q stD (stepsR rs) → Q (.ref q) H'
theorem ok_lsteps {f : Addr} {fd : FuncData} (F : Fun K "_law_steps" "_law_steps" s__law_steps f fd) (n_len : mg "len" = none) (n_range : mg "range" = none) : FnOk P w K mg base CX0 1 f fd ["rooms"] (spSteps K) := by
  refine F.ok sc__law_steps (fun vs H Q E h => ?_) (fun cdv A outer s H vs Q E hr h => ?_)
  · obtain ⟨_, _, rfl, _⟩ := h
    rfl
  · obtain ⟨r, rs, rfl, ⟨xs, er, al⟩, l1, l2, q⟩ := h
    refine ⟨_, (pss_cons (ps_set (i := 1) sc__law_steps.nd rfl (Or.inl rfl) (pe_lst pa_nil))
    (Evl.pss_cut (ps_for PassesOwn.never rfl (pi_seq (pv 0)) (pg_tup rfl (pgs_cons (pg_name (i := 2) sc__law_steps.nd rfl (Or.inr rfl)) (pgs_cons (pg_name (i := 3) sc__law_steps.nd rfl (Or.inl rfl)) pgs_nil)))
      (pss_one (ps_set (i := 1) sc__law_steps.nd rfl (Or.inl rfl) (pe_op op_cat (pv 1) (pe_lc (own := [("at", 4)]) (g := gName 4) rfl sc__law_steps.nd (pi_range1 (by rfl) n_range (pa_cons (pe_callB call_len_seq (by rfl) n_len PySem.boot_len (pa_cons (pv 3) pa_nil)) pa_nil)) (blkOk_by (N := ["rooms", "found", "name", "tale", "at"]) (sc := defScope s__law_steps) (by decide +kernel)) (fun _ _ _ _ _ => pg_name (i := 4) sc__law_steps.nd rfl (Or.inl rfl)) (fun _ _ _ _ _ => pts_nil) (fun _ _ _ _ _ => pe_tup (pa_cons (pv 2) (pa_cons (pe_op op_add (pv 4) pe_int) pa_nil))))))))
    (pss_one (ps_ret (pv 1))))), ?_⟩
    refine ⟨by show 0 ≤ sizeLine; decide, fun f0 hf => ?_⟩
    have s1 := same_new hf (.lst [])
    have ef : upd H f0 (.lst []) f0 = some (.lst []) := upd_same
    generalize upd H f0 (.lst []) = H1 at *
    refine ⟨fun σ H' => (∃ f1 o2 o3, σ = [some (.ref r), some (.ref f1), o2, o3, none] ∧ H f1 = none ∧ ListAt K H' f1 stD (stepsR rs)) ∧ Same H H', ?_, ?_⟩
    · refine ⟨_, rfl, r, xs, rfl, SqX.lst (s1 _ _ er), fun J S W s0 => ?_⟩
      refine for_sq W (fun i σ H' => (∃ f1 o2 o3, σ = [some (.ref r), some (.ref f1), o2, o3, none] ∧ H f1 = none ∧ ListAt K H' f1 stD (stepsR (rs.take i))) ∧ Same H1 H') ⟨⟨f0, none, none, rfl, hf, [], ef, .nil⟩, Same.refl _⟩ (fun i σ H' pv => W.keep (fun o e => pv.2 _ _ e) s0) ?_ ?_
      · rintro i σ H2 y ey ⟨⟨f1, o2, o3, rfl, hf1, zs, e1, al1⟩, s2⟩
        obtain ⟨a, ea, da⟩ := al.get ey
        obtain ⟨b', vt, rfl, hb, ht⟩ := dp_rm (dp_same (s1.trans s2) da)
        obtain ⟨tb, ts, rfl, htb, tl⟩ := dp_seq ht
        refine ⟨b', _, rfl, hb, rfl, _, _, rfl, _, _, rfl, rfl, ?_⟩
        refine ⟨_, rfl, _, rfl, tb, ts, rfl, .inr htb, ?_⟩
        have lt2 : a.2.length ≤ 10 := l2 a (at_mem ea)
        refine ⟨_, rfl, by rw [tl.len]; omega, by rw [tl.len]; omega, fun D hD => ?_⟩
        have sD := same_new hD (.lst [])
        refine lc_range (lo := 0) (n := ((ts.length : Int)).toNat) (fun i H' => Same H2 H' ∧ ListAt K H' D stD ((List.range i).map fun i : Nat => (a.1, ((i : Nat) : Int) + 1))) ⟨sD, [], upd_same, .nil⟩ ?_ ?_
        · rintro j H3 hj ⟨s3, ys, eD, aD⟩
          have hj : j < ts.length := hj
          have ly := aD.len
          rw [List.length_map, List.length_range] at ly
          refine ⟨rfl, _, rfl, _, rfl, _, _, rfl, rfl, by show 2 ≤ sizeLine; decide, fun u hu => ?_⟩
          have s5 := same_new hu (.tup [V.str a.1, .int (0 + (j : Int) + 1)])
          have eD5 := s5 _ _ eD
          have fx : Fix H3 (upd (upd H3 u (.tup [V.str a.1, .int (0 + (j : Int) + 1)])) D (.lst (ys ++ [V.ref u]))) := (Fix.of s5).trans (Fix.lst eD5)
          have nu : u ≠ D := (ne_of_none eD hu).symm
          refine ⟨ys, eD5, by rw [ly, sizeLine_eq]; have := tl.len; omega, fun b o e => ?_, ys ++ [V.ref u], upd_same, ?_⟩
          · rw [upd_ne (ne_of_none e hD)]
            exact s5 _ _ (s3 _ _ e)
          · rw [List.range_succ, List.map_append]
            refine (aD.imp fun _ _ h => dp_fix fx (noL_st _) h).app (.cons (.tup (SqT.of (by rw [upd_ne nu]; exact upd_same)) ?_) .nil)
            rw [Int.zero_add]
            exact .cons (.str _) (.cons (.int _) .nil)
        · rintro H3 ⟨s3, ys, eD, aD⟩
          have aD' : All2 (fun v a => Dp K H3 v (stD a)) ys ((List.range a.2.length).map fun i : Nat => (a.1, ((i : Nat) : Int) + 1)) := by
            rw [← tl.len]; exact aD
          have lz := al1.len
          have ly := aD'.len
          have b1 := stepsR_len rs l2 i
          have b2 := List.length_take_le i rs
          rw [List.length_map, List.length_range] at ly
          refine ⟨f1, D, zs, ys, rfl, rfl, s3 _ _ e1, eD, by rw [sizeLine_eq]; omega, fun u hu => ?_⟩
          have s5 := same_new hu (.lst (zs ++ ys))
          refine ⟨⟨u, _, _, rfl, none_back (((s1.trans s2).trans s3)) hu, zs ++ ys, upd_same, ?_⟩, (s2.trans s3).trans s5⟩
          rw [List.take_add_one, ea]
          show All2 _ (zs ++ ys) (stepsR (rs.take i ++ [a]))
          rw [stepsR_app]
          exact (al1.imp fun _ _ h => dp_same (s3.trans s5) h).app (aD'.imp fun _ _ h => dp_same s5 h)
      · rintro σ H2 ⟨⟨f1, o2, o3, rfl, hf1, zs, e1, al1⟩, s2⟩
        rw [al.len, List.take_of_length_le (Nat.le_refl _)] at al1
        exact ⟨⟨f1, o2, o3, rfl, hf1, zs, e1, al1⟩, s1.trans s2⟩
    rintro σ H2 ⟨⟨f1, o2, o3, rfl, hf1, lt⟩, s2⟩
    exact ⟨_, rfl, q f1 H2 s2 hf1 lt⟩
end
end R0

namespace R0
open PySem PySem.Spec PyProof.Rows L2 Hb St Sq Ow En Zp RZ Rd Xb Da Wa
theorem rd_neD {α : Type} [DecidableEq α] {f : α → PyData} {K : PySem.W.Frag} {H : Hp} {Q : VK} {a t : Addr} {xs : List V} {l : List α} (hl : H a = some (.lst xs)) (al : All2 (fun v b => Dp K H v (f b)) xs l) (hf : ∀ x y, PyData.eqv (f x) (f y) = decide (x = y)) (sh : SeqAt.shaped (.list (l.map f)) = true) (ht : H t = some (.lst [])) (q : Q (.bl (!decide (l = []))) H) : rNeD K (.ref a) (.ref t) H Q :=
  ⟨_, _, .lst (SqL.of hl) (dpa_of (all2_mapR al)), .lst (SqL.of ht) .nil, sh, (sh_lst (n := 0) (f := PyData.int) (l := []) fun _ h => nomatch h).ok (by decide), by rw [show PyData.eqv (.list (l.map f)) (.list []) = decide (l = []) from eqvAll_map hf l []]; exact q⟩
theorem nm_step {rs : List Rm} (h : ∀ a ∈ rs, IsNm a.1) : ∀ s ∈ stepsR rs, IsNm s.1 := by
  intro s hs
  obtain ⟨a, ha, hs⟩ := List.mem_flatMap.mp hs
  obtain ⟨i, _, rfl⟩ := List.mem_map.mp hs
  exact h a ha
theorem iteN {c A B : Prop} [Decidable c] (h1 : ¬ c → A) (h2 : c → B) : if (!decide c) = true then A else B := by
  by_cases h : c
  · rw [decide_eq_true h]; exact h2 h
  · rw [decide_eq_false h]; exact h1 h
theorem and_end {c : Prop} [Decidable c] {te : TE} {σ : L2.St} {H7 : Hp} {Q : VK} {I : Hp → Prop} (i : I H7) (dr : ∀ Q' : VK, (∀ z H8, I H8 → Q' (.bl z) H8) → te σ H7 Q') (fin : ∀ z H8, I H8 → Q (.bl z) H8) : if decide c = true then te σ H7 Q else Q (.bl false) H7 :=
  iteD (fun _ => dr Q fin) fun _ => fin false H7 i
section
variable {P : Program} {w : World} {K : PySem.W.Frag} {mg : Str → Option Value} {base : Heap}
/-! ### _law_joins -/
abbrev s__law_joins : Stmt := top 36
theorem sc__law_joins : FnScope ["deal", "rooms", "many", "steps", "found", "turn", "one", "others", "other", "is_turned", "step"] ["deal", "rooms", "many"] (defScope s__law_joins) := ⟨rfl, rfl, rfl, by decide +kernel, rfl, by decide +kernel, by decide +kernel⟩
def spJoins (K : PySem.W.Frag) : Sp := fun vs H Q _ => ∃ (p l r : Addr) (rs : List Rm) (many : Int), vs = [.ref p, .ref r, .int many] ∧ DealAt H p l ∧ r ≠ p ∧ r ≠ l ∧ ListAt K H r rmD rs ∧ (1 ≤ rs.length ∧ rs.length ≤ 3) ∧ (∀ a ∈ rs, a.2.length ≤ 3) ∧ (∀ a ∈ rs, IsNm a.1) ∧ stepsR rs ≠ [] ∧ 0 ≤ many ∧ many ≤ 3 ∧ ∀ q H' (js : List Jn), Kept2 p l H H' → DealAt H' p l → H q = none → ListAt K H' q jnD js → (js.length : Int) ≤ many → (∀ j ∈ js, j.1 ∈ stepsR rs ∧ j.2 ∈ stepsR rs ∧ j.1.1 ≠ j.2.1) → Q (.ref q) H'
theorem ok_ljoins {f : Addr} {fd : FuncData} (F : Fun K "_law_joins" "_law_joins" s__law_joins f fd) (C__law_draw : Cl P w K mg base "_law_draw" ["deal", "bound"] [] 1 spDraw) (C__law_pick : Cl P w K mg base "_law_pick" ["deal", "some"] [] 2 (spPick K)) (C__law_steps : Cl P w K mg base "_law_steps" ["rooms"] [] 1 (spSteps K)) (n_range : mg "range" = none) : FnOk P w K mg base CX0 3 f fd ["deal", "rooms", "many"] (spJoins K) := by
  refine F.ok sc__law_joins (fun vs H Q E h => ?_) (fun cdv A outer s H vs Q E hr h => ?_)
  · obtain ⟨_, _, _, _, _, rfl, _⟩ := h
    rfl
  · obtain ⟨p, l, r, rs, many, rfl, dl, n1, n2, lr, ⟨k1, k3⟩, kt, kn, sne, m0, m3, q⟩ := h
    refine ⟨_, (pss_cons (ps_par (i := 3) (j := 4) (by rfl) sc__law_joins.nd rfl rfl (by decide) rfl rfl (pa_cons (pe_use C__law_steps (hr.mono (by decide)) rfl (pa_cons (pv 1) pa_nil)) (pa_cons (pe_lst pa_nil) pa_nil)) (by rfl))
    (Evl.pss_cut (ps_for PassesOwn.never rfl (pi_range1 (by rfl) n_range (pa_cons (pv 2) pa_nil)) (pg_name (i := 5) sc__law_joins.nd rfl (Or.inl rfl))
      (pss_cons (ps_set (i := 6) sc__law_joins.nd rfl (Or.inr rfl) (pe_use C__law_pick (hr.mono (by decide)) rfl (pa_cons (pv 0) (pa_cons (pv 3) pa_nil))))
    (Evl.pss_cut (ps_setLc (i := 7) (own := [("step", 10)]) (g := gName 10) (by rfl) sc__law_joins.nd rfl rfl (sw_true rfl rfl rfl (by decide +kernel)) (pi_seq (pv 3)) (blkOk_by (N := ["deal", "rooms", "many", "steps", "found", "turn", "one", "others", "other", "is_turned", "step"]) (sc := defScope s__law_joins) (by decide +kernel)) (fun _ _ _ _ _ => pg_name (i := 10) sc__law_joins.nd rfl (Or.inl rfl)) (fun _ _ _ _ _ => pts_one (pt_cmpR op_ne (pe_ix (r := rIxT K) ix_tup (pv 10) pe_int (fun _ _ => rfl)) (pe_ix (r := rIxT K) ix_tup (pv 6) pe_int (fun _ _ => rfl)) (nomark _))) (fun _ _ _ _ _ => pv 10))
    (pss_one (ps_if (pt_cmpR (op_neD hr.units) (pv 7) (pe_lst pa_nil) (nomark _)) (pss_cons (ps_set (i := 8) sc__law_joins.nd rfl (Or.inl rfl) (pe_use C__law_pick (hr.mono (by decide)) rfl (pa_cons (pv 0) (pa_cons (pv 7) pa_nil))))
    (pss_cons (ps_set (i := 9) sc__law_joins.nd rfl (Or.inl rfl) (pe_and (pe_cmpR op_gt (pe_ix ix_tup (pv 6) pe_int (fun _ _ => rfl)) (pe_ix ix_tup (pv 8) pe_int (fun _ _ => rfl)) (nomark _)) (pe_one (pe_cmpR op_gt (pe_use C__law_draw (hr.mono (by decide)) rfl (pa_cons (pv 0) (pa_cons pe_int pa_nil))) pe_int (nomark _)))))
    (pss_one (ps_expr (pe_bm PySem.F.plainAttrs_list PySem.F.slot_list_append PySem.F.type_list_append mt_append (pv 4) (pa_cons (pe_ifExp (pt_val (pv 9)) (pe_tup (pa_cons (pv 8) (pa_cons (pv 6) pa_nil))) (pe_tup (pa_cons (pv 6) (pa_cons (pv 8) pa_nil)))) pa_nil)))))) pss_nil)))))
    (pss_one (ps_ret (pv 4))))), ?_⟩
    have sl := stepsR_len rs (fun a ha => Nat.le_trans (kt a ha) (by decide)) rs.length
    rw [List.take_length] at sl
    refine ⟨_, rfl, r, rs, rfl, lr, by omega, fun a ha => Nat.le_trans (kt a ha) (by decide), fun sp H1 s1 hsp lsp => ⟨by show 0 ≤ sizeLine; decide, fun fp hfp => ?_⟩⟩
    have s2 := same_new hfp (.lst [])
    have ef : upd H1 fp (.lst []) fp = some (.lst []) := upd_same
    generalize upd H1 fp (.lst []) = H2 at *
    have s12 := s1.trans s2
    have hfp0 := none_back s1 hfp
    have np := deal_ne dl hsp
    have nf := deal_ne dl hfp0
    have nsf : sp ≠ fp := by obtain ⟨_, e, _⟩ := lsp; exact ne_of_none e hfp
    have nmS := nm_step kn
    refine ⟨_, _, rfl, fun σ H' => ∃ o5 o6 o7 o8 o9 js, σ = [some (.ref p), some (.ref r), some (.int many), some (.ref sp), some (.ref fp), o5, o6, o7, o8, o9, none] ∧ Kept2 p l H H' ∧ DealAt H' p l ∧ ListAt K H' fp jnD js ∧ (js.length : Int) ≤ many ∧ (∀ j ∈ js, j.1 ∈ stepsR rs ∧ j.2 ∈ stepsR rs ∧ j.1.1 ≠ j.2.1), ?_, ?_⟩
    · refine ⟨_, rfl, many, rfl, by omega, by omega, ?_⟩
      refine for_range (n := many.toNat) (fun i σ H' => ∃ o5 o6 o7 o8 o9 js, σ = [some (.ref p), some (.ref r), some (.int many), some (.ref sp), some (.ref fp), o5, o6, o7, o8, o9, none] ∧ Kept2 p l H H' ∧ DealAt H' p l ∧ ListAt K H' sp stD (stepsR rs) ∧ ListAt K H' fp jnD js ∧ js.length ≤ i ∧ (∀ j ∈ js, j.1 ∈ stepsR rs ∧ j.2 ∈ stepsR rs ∧ j.1.1 ≠ j.2.1)) ⟨none, none, none, none, none, [], rfl, Kept2.same s12, dl.same s12, lsp.same s2, ⟨[], ef, .nil⟩, Nat.le_refl _, fun _ h => nomatch h⟩ ?_ ?_
      · rintro i σ H3 hi ⟨o5, o6, o7, o8, o9, js, rfl, k3, d3, ⟨ss, es, als⟩, ⟨ys, ey, aly⟩, lj, gj⟩
        have l5 := als.len
        have lnn : 1 ≤ (stepsR rs).length := by
          cases h : stepsR rs with
          | nil => exact absurd h sne
          | cons _ _ => simp
        refine ⟨_, rfl, _, rfl, p, l, sp, ss, rfl, d3, fun H' k => SqX.lst (k _ _ es np.1 np.2), ⟨by omega, by omega⟩, fun x H4 hx k4 d4 => ?_⟩
        obtain ⟨s, hs, ds⟩ := all2_memL als hx
        have ds4 := dp_fix (k4.fix d3) (noL_st s) ds
        obtain ⟨b, rfl, hb⟩ := dp_st ds4
        have es4 := k4 _ _ es np.1 np.2
        let oth := (stepsR rs).filter fun t => decide (t.1 ≠ s.1)
        refine ⟨fun σ H' => ∃ D zs, σ = [some (.ref p), some (.ref r), some (.int many), some (.ref sp), some (.ref fp), some (.int (0 + (i : Nat))), some (.ref b), some (.ref D), o8, o9, none] ∧ H4 D = none ∧ Same H4 H' ∧ H' D = some (.lst zs) ∧ All2 (fun v a => Dp K H' v (stD a)) zs oth, ⟨_, rfl, sp, ss, rfl, SqX.lst es4, fun J S W s0 D hD => ?_⟩, ?_⟩
        refine lc_mf (ds := stepsR rs) W (fun t => decide (t.1 ≠ s.1)) (fun H y t => Dp K H y (stD t)) s0 hD l5 (fun j y t H5 ey' et s5 m => ?_) (fun H5 zs s5 e5 al5 => ?_)
        · obtain ⟨t', et', dt⟩ := als.get ey'
          obtain rfl := Option.some.inj (et'.symm.trans et)
          have dt5 := dp_same s5 (dp_fix (k4.fix d3) (noL_st t') dt)
          obtain ⟨c, rfl, hc⟩ := dp_st dt5
          refine ⟨rfl, _, rfl, c, _, 0, _, rfl, rfl, hc, at0, _, rfl, b, _, 0, _, rfl, rfl, tupFix (Fix.of s5) hb, at0, rfl, _, rfl, ?_⟩
          rw [neStr]
          have lst := stepsR_len rs (fun a ha => Nat.le_trans (kt a ha) (by decide)) rs.length
          refine iteD (fun c => ⟨_, rfl, mf_yes m hD (fun _ _ _ _ f h => dp_fix f (noL_st _) h) et (by omega) (Same.refl _) (decide_eq_true c) dt5⟩) fun c => mf_no m (fun _ _ _ _ f h => dp_fix f (noL_st _) h) et (Same.refl _) (decide_eq_false c)
        · exact ⟨D, zs, rfl, hD, s5, e5, al5⟩
        rintro σ H5 ⟨D, zs, rfl, hD, s5, e5, al5⟩
        refine ⟨_, rfl, by show 0 ≤ sizeLine; decide, fun t ht => ?_⟩
        have s6 := same_new ht (.lst [])
        have et : upd H5 t (.lst []) t = some (.lst []) := upd_same
        generalize upd H5 t (.lst []) = H6 at *
        have al6 := al5.imp fun _ _ h => dp_same s6 h
        have e6 := s6 _ _ e5
        have om : ∀ t ∈ oth, t ∈ stepsR rs ∧ t.1 ≠ s.1 := fun t ht => by
          obtain ⟨a, b⟩ := List.mem_filter.mp ht
          exact ⟨a, of_decide_eq_true b⟩
        refine rd_neD e6 al6 eqv_st ((sh_lst fun t ht => sh_st (nmS t (om t ht).1)).ok (by decide)) et ⟨_, rfl, ?_⟩
        have ks6 := (Kept2.same (p := p) (l := l) s5).trans (Kept2.same s6)
        have fx6 : Fix H3 H6 := (k4.fix d3).trans ((Fix.of s5).trans (Fix.of s6))
        have ey6 := s6 _ _ (s5 _ _ (k4 _ _ ey nf.1 nf.2))
        have aly6 := aly.imp fun _ _ h => dp_fix fx6 (noL_jn _) h
        have es6 := s6 _ _ (s5 _ _ es4)
        have als6 := als.imp fun _ _ h => dp_fix fx6 (noL_st _) h
        have k6 := (k3.trans k4).trans ks6
        have d6 := (d4.same s5).same s6
        refine iteN (fun ne => ?_) fun _ => ⟨_, _, _, _, _, js, rfl, k6, d6, ⟨ss, es6, als6⟩, ⟨ys, ey6, aly6⟩, by omega, gj⟩
        have nD := deal_ne d4 hD
        have on : 1 ≤ oth.length := by
          cases h : oth with
          | nil => exact absurd h ne
          | cons _ _ => simp
        have ol : oth.length ≤ (stepsR rs).length := List.length_filter_le _ _
        have lz := al5.len
        refine ⟨_, rfl, _, rfl, p, l, D, zs, rfl, d6, fun H' k => SqX.lst (k _ _ e6 nD.1 nD.2), ⟨by omega, by omega⟩, fun x H7 hx k7 d7 => ?_⟩
        obtain ⟨u, hu, du⟩ := all2_memL al6 hx
        obtain ⟨c, rfl, hc⟩ := dp_st (dp_fix (k7.fix d6) (noL_st u) du)
        have fb7 : Fix H4 H7 := ((Fix.of s5).trans (Fix.of s6)).trans (k7.fix d6)
        have hb7 := tupFix fb7 hb
        refine ⟨_, rfl, b, _, 1, _, rfl, rfl, hb7, at1, _, rfl, c, _, 1, _, rfl, rfl, hc, at1, _, _, rfl, rfl, _, rfl, ?_⟩
        refine and_end (I := fun H8 => Kept2 p l H7 H8 ∧ DealAt H8 p l) ⟨Kept2.refl _ _ _, d7⟩ (fun Q' fin => ?_) fun z H8 hh => ?_
        · refine ⟨_, rfl, p, l, 4, rfl, ⟨by decide, by decide⟩, d7, fun d H8 _ _ k8 d8 => ⟨_, _, rfl, rfl, fin _ _ ⟨k8, d8⟩⟩⟩
        · obtain ⟨k8, d8⟩ := hh
          have fx8 : Fix H6 H8 := (k7.fix d6).trans (k8.fix d7)
          have hb8 := tupFix (k8.fix d7) hb7
          have hc8 := tupFix (k8.fix d7) hc
          have ey8 := k8 _ _ (k7 _ _ ey6 nf.1 nf.2) nf.1 nf.2
          have es8 := k8 _ _ (k7 _ _ es6 np.1 np.2) np.1 np.2
          have aly8 := aly6.imp fun _ _ h => dp_fix fx8 (noL_jn _) h
          have als8 := als6.imp fun _ _ h => dp_fix fx8 (noL_st _) h
          have k08 := (k6.trans k7).trans k8
          have ds8 : Dp K H8 (.ref b) (stD s) := .tup hb8 (.cons (.str _) (.cons (.int _) .nil))
          have du8 : Dp K H8 (.ref c) (stD u) := .tup hc8 (.cons (.str _) (.cons (.int _) .nil))
          have ends : ∀ (g : Addr) (xs : List V) (jn : Jn), H8 g = none → DpAll K H8 xs [stD jn.1, stD jn.2] → (jn.1 ∈ stepsR rs ∧ jn.2 ∈ stepsR rs ∧ jn.1.1 ≠ jn.2.1) → Kept2 p l H (upd (upd H8 g (.tup xs)) fp (.lst (ys ++ [V.ref g]))) ∧ DealAt (upd (upd H8 g (.tup xs)) fp (.lst (ys ++ [V.ref g]))) p l ∧ ListAt K (upd (upd H8 g (.tup xs)) fp (.lst (ys ++ [V.ref g]))) sp stD (stepsR rs) ∧ ListAt K (upd (upd H8 g (.tup xs)) fp (.lst (ys ++ [V.ref g]))) fp jnD (js ++ [jn]) := by
            intro g xs jn hg da gd
            have s9 := same_new hg (.tup xs)
            have ey9 := s9 _ _ ey8
            have ng : g ≠ fp := (ne_of_none ey8 hg).symm
            have fx9 : Fix H8 (upd (upd H8 g (.tup xs)) fp (.lst (ys ++ [V.ref g]))) := (Fix.of s9).trans (Fix.lst ey9)
            refine ⟨fun a o e h1 h2 => ?_, deal_upd (d8.same s9) nf.1 nf.2, ⟨ss, ?_, als8.imp fun _ _ h => dp_fix fx9 (noL_st _) h⟩, ⟨_, upd_same, (aly8.imp fun _ _ h => dp_fix fx9 (noL_jn _) h).app (.cons (.tup (SqT.of (by rw [upd_ne ng]; exact upd_same)) (dpa_fix fx9 ?_ da)) .nil)⟩⟩
            · rw [upd_ne (ne_of_none e hfp0)]
              exact s9 _ _ (k08 _ _ e h1 h2)
            · rw [upd_ne nsf]
              exact s9 _ _ es8
            · simp [noLs, noL_st]
          refine ⟨_, rfl, .inl ⟨rfl, _, SqL.of ey8⟩, ?_⟩
          have lyy := aly.len
          cases z with
          | true =>
            refine ⟨_, rfl, true, rfl, iteT ⟨_, rfl, _, rfl, by show 2 ≤ sizeLine; decide, fun g hg => ?_⟩⟩
            have s9 := same_new hg (.tup [V.ref c, .ref b])
            obtain ⟨a1, a2, a3, a4⟩ := ends g _ (u, s) hg (.cons du8 (.cons ds8 .nil)) ⟨(om u hu).1, hs, (om u hu).2⟩
            exact ⟨fp, ys, _, rfl, rfl, s9 _ _ ey8, by rw [sizeLine_eq]; omega, _, _, _, _, _, js ++ [(u, s)], rfl, a1, a2, a3, a4, by rw [List.length_append]; exact Nat.succ_le_succ lj, fun j hj => (List.mem_append.mp hj).elim (gj j) fun h => by rw [List.mem_singleton.mp h]; exact ⟨(om u hu).1, hs, (om u hu).2⟩⟩
          | false =>
            refine ⟨_, rfl, false, rfl, iteF ⟨_, rfl, _, rfl, by show 2 ≤ sizeLine; decide, fun g hg => ?_⟩⟩
            have s9 := same_new hg (.tup [V.ref b, .ref c])
            obtain ⟨a1, a2, a3, a4⟩ := ends g _ (s, u) hg (.cons ds8 (.cons du8 .nil)) ⟨hs, (om u hu).1, (om u hu).2.symm⟩
            exact ⟨fp, ys, _, rfl, rfl, s9 _ _ ey8, by rw [sizeLine_eq]; omega, _, _, _, _, _, js ++ [(s, u)], rfl, a1, a2, a3, a4, by rw [List.length_append]; exact Nat.succ_le_succ lj, fun j hj => (List.mem_append.mp hj).elim (gj j) fun h => by rw [List.mem_singleton.mp h]; exact ⟨hs, (om u hu).1, (om u hu).2.symm⟩⟩
      · rintro σ H3 ⟨o5, o6, o7, o8, o9, js, rfl, k3, d3, _, lj, l9, gj⟩
        exact ⟨o5, o6, o7, o8, o9, js, rfl, k3, d3, lj, by omega, gj⟩
    rintro σ H3 ⟨o5, o6, o7, o8, o9, js, rfl, k3, d3, lj, l9, gj⟩
    exact ⟨_, rfl, q fp H3 js k3 d3 hfp0 lj l9 gj⟩
end
end R0

namespace R0
open PySem PySem.Spec PyProof.Rows L2 Hb St Sq Ow En Zp RZ Rd Xb Da Wa
def nms3 : List (List Str) := [[Str.ofString "a", Str.ofString "b", Str.ofString "c"], [Str.ofString "zoo", Str.ofString "hall", Str.ofString "a"], [Str.ofString "abcdefgh", Str.ofString "abcdefgi", Str.ofString "b"]]
/-- what the law's rooms keep -/
structure RLaw (rs : List Rm) (gs cs : List Jn) : Prop where
  nm : ∃ ns ∈ nms3, rs.map (·.1) = ns.take rs.length
  nr : 1 ≤ rs.length ∧ rs.length ≤ 3
  tl : ∀ r ∈ rs, r.2.length ≤ 3 ∧ ∀ a ∈ r.2, a ∈ lots7
  ne : stepsR rs ≠ []
  lg : gs.length ≤ 2
  lc : cs.length ≤ 3
  gj : ∀ j ∈ gs, j.1 ∈ stepsR rs ∧ j.2 ∈ stepsR rs ∧ j.1.1 ≠ j.2.1
  cj : ∀ j ∈ cs, j.1 ∈ stepsR rs ∧ j.2 ∈ stepsR rs ∧ j.1.1 ≠ j.2.1
theorem ListAt.kept {α : Type} {K : PySem.W.Frag} {H H' : Hp} {q p l : Addr} {f : α → PyData} {xs : List α} (h : ListAt K H q f xs) (k : Kept2 p l H H') (d : DealAt H p l) (n : q ≠ p ∧ q ≠ l) (nf : ∀ a, noL (f a) = true) : ListAt K H' q f xs :=
  let ⟨ys, e, a⟩ := h; ⟨ys, k _ _ e n.1 n.2, a.imp fun _ _ g => dp_fix (k.fix d) (nf _) g⟩
theorem pick_ints {K : PySem.W.Frag} {H : Hp} {Q : VK} {p l t : Addr} (ns : List Int) (d : DealAt H p l) (ht : H t = none) (n1 : 1 ≤ ns.length) (n2 : ns.length ≤ 20) (q : ∀ n H', n ∈ ns → Kept2 p l H H' → DealAt H' p l → Q (.int n) H') : spPick K [.ref p, .ref t] (upd H t (.lst (ns.map V.int))) Q E0 := by
  have s := same_new ht (.lst (ns.map V.int))
  have nt := deal_ne d ht
  refine ⟨p, l, t, ns.map V.int, rfl, d.same s, fun H' k => SqX.lst (k _ _ upd_same nt.1 nt.2), ⟨by rw [List.length_map]; exact n1, by rw [List.length_map]; omega⟩, fun x H' hx k d' => ?_⟩
  obtain ⟨n, hn, rfl⟩ := List.mem_map.mp hx
  exact q n H' hn ((Kept2.same s).trans k) d'
structure RPart (ns : List Str) (rs : List Rm) (left : Int) : Prop where
  nm : rs.map (·.1) = ns.take rs.length
  tl : ∀ r ∈ rs, r.2.length ≤ 3 ∧ ∀ a ∈ r.2, a ∈ lots7
  lf : left + (stepsR rs).length = 6
  l0 : 0 ≤ left
theorem RPart.snoc {ns : List Str} {rs : List Rm} {left : Int} {n : Str} {t : Tale} (h : RPart ns rs left) (en : ns[rs.length]? = some n) (ht : (t.length : Int) ≤ left) (t3 : t.length ≤ 3) (tm : ∀ a ∈ t, a ∈ lots7) : RPart ns (rs ++ [(n, t)]) (left - t.length) := by
  refine ⟨?_, fun r hr => ?_, ?_, by omega⟩
  · rw [List.map_append, h.nm, List.length_append, List.length_singleton, List.take_add_one, en]; rfl
  · rcases List.mem_append.mp hr with hr | hr
    · exact h.tl r hr
    · rw [List.mem_singleton.mp hr]; exact ⟨t3, tm⟩
  · have := h.lf
    rw [stepsR_app, List.length_append, List.length_map, List.length_range]
    show left - (t.length : Int) + (((stepsR rs).length + t.length : Nat) : Int) = 6
    omega
theorem none_kept {p l q : Addr} {H H' : Hp} (k : Kept2 p l H H') (d : DealAt H' p l) (h : H' q = none) : H q = none := by
  obtain ⟨n1, n2⟩ := deal_ne d h
  cases e : H q with
  | none => rfl
  | some o => rw [k _ _ e n1 n2] at h; cases h
structure RHalf (rs : List Rm) : Prop where
  nm : ∃ ns ∈ nms3, rs.map (·.1) = ns.take rs.length
  nr : 1 ≤ rs.length ∧ rs.length ≤ 3
  tl : ∀ r ∈ rs, r.2.length ≤ 3 ∧ ∀ a ∈ r.2, a ∈ lots7
  ne : stepsR rs ≠ []
theorem nms3_ok : ∀ ns ∈ nms3, ns.length = 3 ∧ ∀ n ∈ ns, IsNm n := by
  unfold IsNm
  decide +kernel
theorem RHalf.isn {rs : List Rm} (h : RHalf rs) : ∀ a ∈ rs, IsNm a.1 := by
  obtain ⟨ns, hn, e⟩ := h.nm
  intro a ha
  have : a.1 ∈ rs.map (·.1) := List.mem_map_of_mem ha
  rw [e] at this
  exact (nms3_ok ns hn).2 _ (List.mem_of_mem_take this)
section
variable {P : Program} {w : World} {K : PySem.W.Frag} {mg : Str → Option Value} {base : Heap}
/-! ### _law_rooms -/
abbrev s__law_rooms : Stmt := top 37
theorem sc__law_rooms : FnScope ["deal", "most", "names", "rooms", "left", "at", "many", "gongs"] ["deal", "most"] (defScope s__law_rooms) := ⟨rfl, rfl, rfl, by decide +kernel, rfl, by decide +kernel, by decide +kernel⟩
def spRooms (K : PySem.W.Frag) : Sp := fun vs H Q _ => ∃ (p l : Addr), vs = [.ref p, .int 6] ∧ DealAt H p l ∧ ∀ u a b c H' (rs : List Rm) (gs cs : List Jn), Kept2 p l H H' → DealAt H' p l → SqT K H' u [.ref a, .ref b, .ref c] → H a = none → H b = none → H c = none → ListAt K H' a rmD rs → ListAt K H' b jnD gs → ListAt K H' c jnD cs → RLaw rs gs cs → Q (.ref u) H'
theorem ok_lrooms {f : Addr} {fd : FuncData} (F : Fun K "_law_rooms" "_law_rooms" s__law_rooms f fd) (C__law_joins : Cl P w K mg base "_law_joins" ["deal", "rooms", "many"] [] 3 (spJoins K)) (C__law_pick : Cl P w K mg base "_law_pick" ["deal", "some"] [] 2 (spPick K)) (C__law_tale : Cl P w K mg base "_law_tale" ["deal", "many"] [] 3 (spTale K)) (n_min : mg "min" = none) (n_range : mg "range" = none) : FnOk P w K mg base CX0 4 f fd ["deal", "most"] (spRooms K) := by
  refine F.ok sc__law_rooms (fun vs H Q E h => ?_) (fun cdv A outer s H vs Q E hr h => ?_)
  · obtain ⟨_, _, rfl, _⟩ := h
    rfl
  · obtain ⟨p, l, rfl, dl, q⟩ := h
    refine ⟨_, (pss_cons (ps_set (i := 2) sc__law_rooms.nd rfl (Or.inl rfl) (pe_use C__law_pick (hr.mono (by decide)) rfl (pa_cons (pv 0) (pa_cons (pe_lst (pa_cons (pe_lst (pa_cons pe_str (pa_cons pe_str (pa_cons pe_str pa_nil)))) (pa_cons (pe_lst (pa_cons pe_str (pa_cons pe_str (pa_cons pe_str pa_nil)))) (pa_cons (pe_lst (pa_cons pe_str (pa_cons pe_str (pa_cons pe_str pa_nil)))) pa_nil)))) pa_nil))))
    (pss_cons (ps_par (i := 3) (j := 4) (by rfl) sc__law_rooms.nd rfl rfl (by decide) rfl rfl (pa_cons (pe_lst pa_nil) (pa_cons (pv 1) pa_nil)) (by rfl))
    (Evl.pss_cut (ps_for PassesOwn.never rfl (pi_range1 (by rfl) n_range (pa_cons (pe_use C__law_pick (hr.mono (by decide)) rfl (pa_cons (pv 0) (pa_cons (pe_lst (pa_cons pe_int (pa_cons pe_int (pa_cons pe_int (pa_cons pe_int (pa_cons pe_int (pa_cons pe_int (pa_cons pe_int pa_nil)))))))) pa_nil))) pa_nil)) (pg_name (i := 5) sc__law_rooms.nd rfl (Or.inl rfl))
      (pss_cons (ps_set (i := 6) sc__law_rooms.nd rfl (Or.inl rfl) (pe_callB (call_min2 rfl) (by rfl) n_min PyProof.Rows.boot_min (pa_cons (pv 4) (pa_cons (pe_use C__law_pick (hr.mono (by decide)) rfl (pa_cons (pv 0) (pa_cons (pe_lst (pa_cons pe_int (pa_cons pe_int (pa_cons pe_int (pa_cons pe_int (pa_cons pe_int (pa_cons pe_int (pa_cons pe_int pa_nil)))))))) pa_nil))) pa_nil))))
    (pss_cons (ps_expr (pe_bm PySem.F.plainAttrs_list PySem.F.slot_list_append PySem.F.type_list_append mt_append (pv 3) (pa_cons (pe_tup (pa_cons (pe_ix ix_list (pv 2) (pv 5) (fun _ _ => rfl)) (pa_cons (pe_use C__law_tale (hr.mono (by decide)) rfl (pa_cons (pv 0) (pa_cons (pv 6) pa_nil))) pa_nil))) pa_nil)))
    (pss_one (ps_set (i := 4) sc__law_rooms.nd rfl (Or.inl rfl) (pe_op op_sub (pv 4) (pv 6)))))))
    (Evl.pss_cut (ps_if (pt_cmpR op_eq (pv 4) (pv 1) (nomark _)) (pss_one (ps_asg (pe_tup (pa_cons (pe_ix ix_list (pv 2) pe_int (fun _ _ => rfl)) (pa_cons (pe_use C__law_tale (hr.mono (by decide)) rfl (pa_cons (pv 0) (pa_cons pe_int pa_nil))) pa_nil))) (pg_sub (pv 3) pe_int set_list))) pss_nil)
    (pss_cons (ps_set (i := 7) sc__law_rooms.nd rfl (Or.inl rfl) (pe_use C__law_joins (hr.mono (by decide)) rfl (pa_cons (pv 0) (pa_cons (pv 3) (pa_cons (pe_use C__law_pick (hr.mono (by decide)) rfl (pa_cons (pv 0) (pa_cons (pe_lst (pa_cons pe_int (pa_cons pe_int (pa_cons pe_int (pa_cons pe_int (pa_cons pe_int pa_nil)))))) pa_nil))) pa_nil)))))
    (pss_one (ps_ret (pe_tup (pa_cons (pv 3) (pa_cons (pv 7) (pa_cons (pe_use C__law_joins (hr.mono (by decide)) rfl (pa_cons (pv 0) (pa_cons (pv 3) (pa_cons (pe_use C__law_pick (hr.mono (by decide)) rfl (pa_cons (pv 0) (pa_cons (pe_lst (pa_cons pe_int (pa_cons pe_int (pa_cons pe_int (pa_cons pe_int (pa_cons pe_int pa_nil)))))) pa_nil))) pa_nil)))) pa_nil))))))))))), ?_⟩
    refine ⟨_, rfl, by show 3 ≤ sizeLine; decide, fun b1 h1 => ⟨by show 3 ≤ sizeLine; decide, fun b2 h2 => ⟨by show 3 ≤ sizeLine; decide, fun b3 h3 => ⟨by show 3 ≤ sizeLine; decide, fun t ht => ?_⟩⟩⟩⟩
    have s1 := same_new h1 (.lst [V.str (Str.ofString "a"), .str (Str.ofString "b"), .str (Str.ofString "c")])
    have e1 : upd H b1 (.lst [V.str (Str.ofString "a"), .str (Str.ofString "b"), .str (Str.ofString "c")]) b1 = _ := upd_same
    generalize upd H b1 (.lst [V.str (Str.ofString "a"), .str (Str.ofString "b"), .str (Str.ofString "c")]) = H1 at *
    have s2 := same_new h2 (.lst [V.str (Str.ofString "zoo"), .str (Str.ofString "hall"), .str (Str.ofString "a")])
    have e2 : upd H1 b2 (.lst [V.str (Str.ofString "zoo"), .str (Str.ofString "hall"), .str (Str.ofString "a")]) b2 = _ := upd_same
    generalize upd H1 b2 (.lst [V.str (Str.ofString "zoo"), .str (Str.ofString "hall"), .str (Str.ofString "a")]) = H2 at *
    have s3 := same_new h3 (.lst [V.str (Str.ofString "abcdefgh"), .str (Str.ofString "abcdefgi"), .str (Str.ofString "b")])
    have e3 : upd H2 b3 (.lst [V.str (Str.ofString "abcdefgh"), .str (Str.ofString "abcdefgi"), .str (Str.ofString "b")]) b3 = _ := upd_same
    generalize upd H2 b3 (.lst [V.str (Str.ofString "abcdefgh"), .str (Str.ofString "abcdefgi"), .str (Str.ofString "b")]) = H3 at *
    have s4 := same_new ht (.lst [V.ref b1, .ref b2, .ref b3])
    have e4 : upd H3 t (.lst [V.ref b1, .ref b2, .ref b3]) t = _ := upd_same
    generalize upd H3 t (.lst [V.ref b1, .ref b2, .ref b3]) = H4 at *
    have s04 := ((s1.trans s2).trans s3).trans s4
    have nt := deal_ne (((dl.same s1).same s2).same s3) ht
    have nb1 := deal_ne dl h1
    have nb2 := deal_ne (dl.same s1) h2
    have nb3 := deal_ne ((dl.same s1).same s2) h3
    have d4 := dl.same s04
    refine ⟨p, l, t, _, rfl, d4, fun H' k => SqX.lst (k _ _ e4 nt.1 nt.2), ⟨by show 1 ≤ 3; decide, by show 3 ≤ 1000; decide⟩, fun x H5 hx k5 d5 => ?_⟩
    have hx2 : ∃ nl ns, x = .ref nl ∧ ns ∈ nms3 ∧ H5 nl = some (.lst (ns.map V.str)) ∧ nl ≠ p ∧ nl ≠ l := by
      simp only [List.mem_cons, List.mem_nil_iff, or_false] at hx
      rcases hx with rfl | rfl | rfl
      · exact ⟨b1, [Str.ofString "a", Str.ofString "b", Str.ofString "c"], rfl, by decide, k5 _ _ (s4 _ _ (s3 _ _ (s2 _ _ e1))) nb1.1 nb1.2, nb1⟩
      · exact ⟨b2, [Str.ofString "zoo", Str.ofString "hall", Str.ofString "a"], rfl, by decide, k5 _ _ (s4 _ _ (s3 _ _ e2)) nb2.1 nb2.2, nb2⟩
      · exact ⟨b3, [Str.ofString "abcdefgh", Str.ofString "abcdefgi", Str.ofString "b"], rfl, by decide, k5 _ _ (s4 _ _ e3) nb3.1 nb3.2, nb3⟩
    obtain ⟨nl, ns, rfl, hns, en5, nnl⟩ := hx2
    have ln3 : ns.length = 3 := by
      have : ∀ n ∈ nms3, n.length = 3 := by decide
      exact this ns hns
    have k05 := (Kept2.same (p := p) (l := l) s04).trans k5
    refine ⟨by show 0 ≤ sizeLine; decide, fun rl hrl => ⟨_, rfl, _, _, rfl, ?_⟩⟩
    have s6 := same_new hrl (.lst [])
    have e6 : upd H5 rl (.lst []) rl = some (.lst []) := upd_same
    generalize upd H5 rl (.lst []) = H6 at *
    have nrl := deal_ne d5 hrl
    have nnr : nl ≠ rl := ne_of_none en5 hrl
    have k06 := k05.trans (Kept2.same s6)
    have hrl0 : H rl = none := by
      cases h : H rl with
      | none => rfl
      | some o =>
        have := k05 _ _ h nrl.1 nrl.2
        rw [hrl] at this
        cases this
    refine ⟨fun σ H' => ∃ o5 o6 rs left, σ = [some (.ref p), some (.int 6), some (.ref nl), some (.ref rl), some (.int left), o5, o6, none] ∧ Kept2 p l H H' ∧ DealAt H' p l ∧ H' nl = some (.lst (ns.map V.str)) ∧ ListAt K H' rl rmD rs ∧ (1 ≤ rs.length ∧ rs.length ≤ 3) ∧ RPart ns rs left, ?_, ?_⟩
    · refine ⟨_, rfl, by show 7 ≤ sizeLine; decide, fun t2 ht2 => pick_ints [1, 2, 2, 2, 3, 3, 3] (d5.same s6) ht2 (by decide) (by decide) fun n H7 hn k7 d7 => ?_⟩
      have n13 : 1 ≤ n ∧ n ≤ 3 := by
        have : ∀ n ∈ ([1, 2, 2, 2, 3, 3, 3] : List Int), 1 ≤ n ∧ n ≤ 3 := by decide
        exact this n hn
      refine ⟨n, rfl, by omega, by omega, ?_⟩
      refine for_range (n := n.toNat) (fun i σ H' => ∃ o5 o6 rs left, σ = [some (.ref p), some (.int 6), some (.ref nl), some (.ref rl), some (.int left), o5, o6, none] ∧ Kept2 p l H H' ∧ DealAt H' p l ∧ H' nl = some (.lst (ns.map V.str)) ∧ ListAt K H' rl rmD rs ∧ rs.length = i ∧ RPart ns rs left) ⟨none, none, [], 6, rfl, k06.trans k7, d7, k7 _ _ (s6 _ _ en5) nnl.1 nnl.2, ⟨[], k7 _ _ e6 nrl.1 nrl.2, .nil⟩, rfl, rfl, (fun _ h => nomatch h), rfl, by decide⟩ ?_ ?_
      · rintro i σ H8 hi ⟨o5, o6, rs, left, rfl, k8, d8, en8, lr8, rfl, rp⟩
        refine ⟨_, rfl, _, rfl, by show 7 ≤ sizeLine; decide, fun t3 ht3 => pick_ints [0, 1, 1, 2, 2, 2, 3] d8 ht3 (by decide) (by decide) fun m H9 hm k9 d9 => ?_⟩
        have m13 : 0 ≤ m ∧ m ≤ 3 := by
          have : ∀ n ∈ ([0, 1, 1, 2, 2, 2, 3] : List Int), 0 ≤ n ∧ n ≤ 3 := by decide
          exact this m hm
        have l0 := rp.l0
        obtain ⟨mm, emm, hmm⟩ : ∃ mm : Int, (if m < left then m else left) = mm ∧ 0 ≤ mm ∧ mm ≤ 3 ∧ mm ≤ left := by
          refine ⟨_, rfl, ?_⟩
          split <;> omega
        refine ⟨left, m, rfl, ?_⟩
        rw [emm]
        have en9 := k9 _ _ en8 nnl.1 nnl.2
        have lr9 := lr8.kept k9 d8 nrl noL_rm
        obtain ⟨ys, ey, aly⟩ := lr9
        obtain ⟨nm, enm⟩ : ∃ nm, ns[rs.length]? = some nm := ⟨_, List.getElem?_eq_getElem (by omega)⟩
        refine ⟨_, rfl, .inl ⟨rfl, _, SqL.of ey⟩, _, rfl, _, rfl, nl, _, _, .str nm, rfl, rfl, SqL.of en9, ?_, _, rfl, _, rfl, p, l, mm, rfl, d9, hmm.1, hmm.2.1, fun v HA tt kA dA dt ltt mtt => ⟨by show 2 ≤ sizeLine; decide, fun g hg => ?_⟩⟩
        · rw [Int.zero_add]
          exact at_nat (by rw [List.getElem?_map, enm]; rfl)
        have eyA := kA _ _ ey nrl.1 nrl.2
        have sB := same_new hg (.tup [V.str nm, v])
        have eyB := sB _ _ eyA
        have ng : g ≠ rl := (ne_of_none eyA hg).symm
        have fxB : Fix H9 (upd (upd HA g (.tup [V.str nm, v])) rl (.lst (ys ++ [V.ref g]))) := (kA.fix d9).trans ((Fix.of sB).trans (Fix.lst eyB))
        have lyy := aly.len
        refine ⟨rl, ys, _, rfl, rfl, eyB, by rw [sizeLine_eq]; omega, ?_⟩
        refine ⟨_, rfl, _, rfl, _, _, rfl, rfl, _, _, rs ++ [(nm, tt)], left - mm, rfl, ?_, deal_upd (dA.same sB) nrl.1 nrl.2, ?_, ⟨_, upd_same, (aly.imp fun _ _ h => dp_fix fxB (noL_rm _) h).app (.cons (.tup (SqT.of (by rw [upd_ne ng]; exact upd_same)) (.cons (.str _) (.cons (dp_fix ((Fix.of sB).trans (Fix.lst eyB)) (noL_tD _) dt) .nil))) .nil)⟩, by rw [List.length_append]; rfl, ?_⟩
        · intro a o e h1 h2
          rw [upd_ne (ne_of_none e hrl0)]
          exact sB _ _ (kA _ _ (k9 _ _ (k8 _ _ e h1 h2) h1 h2) h1 h2)
        · rw [upd_ne nnr]
          exact sB _ _ (kA _ _ en9 nnl.1 nnl.2)
        · rw [← ltt]
          exact rp.snoc enm (by omega) (by omega) mtt
      · rintro σ H8 ⟨o5, o6, rs, left, rfl, k8, d8, en8, lr8, hl, rp⟩
        exact ⟨o5, o6, rs, left, rfl, k8, d8, en8, lr8, by omega, rp⟩
    rintro σ H7 ⟨o5, o6, rs, left, rfl, k7, d7, en7, lr7, rl3, rp⟩
    refine ⟨fun σ H' => ∃ o5 o6 rs left, σ = [some (.ref p), some (.int 6), some (.ref nl), some (.ref rl), some (.int left), o5, o6, none] ∧ Kept2 p l H H' ∧ DealAt H' p l ∧ ListAt K H' rl rmD rs ∧ RHalf rs, ?_, ?_⟩
    · refine ⟨_, rfl, _, rfl, rfl, _, rfl, ?_⟩
      have c6 : decide (V.int left = V.int 6) = decide (left = 6) := by
        by_cases h : left = 6
        · rw [h]; simp
        · rw [decide_eq_false h, decide_eq_false fun e => h (by injection e)]
      rw [c6]
      refine iteD (fun c => ?_) fun c => ⟨_, _, rs, left, rfl, k7, d7, lr7, ⟨ns, hns, rp.nm⟩, rl3, rp.tl, fun z => ?_⟩
      · obtain ⟨ys, ey, aly⟩ := lr7
        have ly := aly.len
        cases aly with
        | nil => exact absurd rl3.1 (by decide)
        | @cons y0 r0 ys rs h0 hr =>
          obtain ⟨nm, enm⟩ : ∃ nm, ns[0]? = some nm := ⟨_, List.getElem?_eq_getElem (by omega)⟩
          have enm0 : r0.1 = nm := by
            have := rp.nm
            cases hn : ns with
            | nil => rw [hn] at ln3; cases ln3
            | cons n0 nr =>
              rw [hn] at this enm
              rw [List.map_cons, List.length_cons, List.take_succ_cons] at this
              injection this with h1 _
              rw [h1]
              exact Option.some.inj enm
          refine ⟨_, rfl, nl, _, 0, _, rfl, rfl, SqL.of en7, at_nat (i := 0) (by rw [List.getElem?_map, enm]; rfl), _, rfl, p, l, 2, rfl, d7, by decide, by decide, fun v HA tt kA dA dt ltt mtt => ⟨by show 2 ≤ sizeLine; decide, fun g hg => ?_⟩⟩
          have nrl := deal_ne dl hrl0
          have eyA := kA _ _ ey nrl.1 nrl.2
          have sB := same_new hg (.tup [V.str nm, v])
          have eyB := sB _ _ eyA
          have ng : g ≠ rl := (ne_of_none eyA hg).symm
          refine ⟨_, rfl, rl, _, 0, 0, rfl, rfl, eyB, (by unfold ixN; rw [if_pos (by decide), if_pos (by rw [List.length_cons]; omega)]; rfl), ?_⟩
          have fxB : Fix H7 (upd (upd HA g (.tup [V.str nm, v])) rl (.lst (V.ref g :: ys))) := (kA.fix d7).trans ((Fix.of sB).trans (Fix.lst eyB))
          have stp : stepsR ((nm, tt) :: rs) = ((List.range tt.length).map fun i : Nat => (nm, ((i : Nat) : Int) + 1)) ++ stepsR rs := rfl
          refine ⟨_, _, (nm, tt) :: rs, left, rfl, ?_, deal_upd (dA.same sB) nrl.1 nrl.2, ⟨_, upd_same, .cons (.tup (SqT.of (by rw [upd_ne ng]; exact upd_same)) (.cons (.str _) (.cons (dp_fix ((Fix.of sB).trans (Fix.lst eyB)) (noL_tD _) dt) .nil))) (hr.imp fun _ _ h => dp_fix fxB (noL_rm _) h)⟩, ⟨ns, hns, ?_⟩, rl3, fun r hr => ?_, fun z => ?_⟩
          · intro a o e h1 h2
            rw [upd_ne (ne_of_none e hrl0)]
            exact sB _ _ (kA _ _ (k7 _ _ e h1 h2) h1 h2)
          · have := rp.nm
            rw [List.map_cons, enm0] at this
            exact this
          · rcases List.mem_cons.mp hr with rfl | hr
            · exact ⟨by show tt.length ≤ 3; omega, mtt⟩
            · exact rp.tl r (List.mem_cons_of_mem _ hr)
          · have h2 : tt.length = 2 := by omega
            have : (stepsR ((nm, tt) :: rs)).length = 0 := by rw [z]; rfl
            rw [stp, List.length_append, List.length_map, List.length_range] at this
            omega
      · have := rp.lf
        rw [z] at this
        exact c (by simpa using this)
    rintro σ H8 ⟨o5, o6, rs, left, rfl, k8, d8, lr8, rh⟩
    have nrl := deal_ne dl hrl0
    have isn := rh.isn
    have tl3 : ∀ a ∈ rs, a.2.length ≤ 3 := fun a ha => (rh.tl a ha).1
    refine ⟨_, rfl, _, rfl, _, rfl, by show 5 ≤ sizeLine; decide, fun t2 ht2 => pick_ints [0, 0, 1, 1, 2] d8 ht2 (by decide) (by decide) fun m H9 hm k9 d9 => ?_⟩
    have m02 : 0 ≤ m ∧ m ≤ 2 := by
      have : ∀ n ∈ ([0, 0, 1, 1, 2] : List Int), 0 ≤ n ∧ n ≤ 2 := by decide
      exact this m hm
    have lr9 := lr8.kept k9 d8 nrl noL_rm
    refine ⟨p, l, rl, rs, m, rfl, d9, nrl.1, nrl.2, lr9, rh.nr, tl3, isn, rh.ne, m02.1, by omega, fun g HA gs kA dA hg lg lgs ggs => ?_⟩
    have lrA := lr9.kept kA d9 nrl noL_rm
    have ng := deal_ne d9 hg
    refine ⟨_, rfl, _, rfl, _, rfl, _, rfl, _, rfl, by show 5 ≤ sizeLine; decide, fun t3 ht3 => pick_ints [0, 1, 2, 2, 3] dA ht3 (by decide) (by decide) fun m3 HB hm3 kB dB => ?_⟩
    have m03 : 0 ≤ m3 ∧ m3 ≤ 3 := by
      have : ∀ n ∈ ([0, 1, 2, 2, 3] : List Int), 0 ≤ n ∧ n ≤ 3 := by decide
      exact this m3 hm3
    have lrB := lrA.kept kB dA nrl noL_rm
    have lgB := lg.kept kB dA ng noL_jn
    refine ⟨p, l, rl, rs, m3, rfl, dB, nrl.1, nrl.2, lrB, rh.nr, tl3, isn, rh.ne, m03.1, m03.2, fun c HC cs kC dC hc lc lcs gcs => ⟨by show 3 ≤ sizeLine; decide, fun u hu => ?_⟩⟩
    have lrC := lrB.kept kC dB nrl noL_rm
    have lgC := lgB.kept kC dB ng noL_jn
    have s9 := same_new hu (.tup [V.ref rl, .ref g, .ref c])
    have kAll := ((((k8.trans k9).trans kA).trans kB).trans kC)
    exact q u rl g c _ rs gs cs (kAll.trans (Kept2.same s9)) (dC.same s9) (SqT.of upd_same) hrl0 (none_kept (k8.trans k9) d9 hg) (none_kept (((k8.trans k9).trans kA).trans kB) dB hc) (lrC.same s9) (lgC.same s9) (lc.same s9) ⟨rh.nm, rh.nr, rh.tl, rh.ne, by omega, by omega, ggs, gcs⟩
end
end R0

namespace R0
open PySem PySem.Spec PyProof.Rows L2 Hb St Sq Ow En Zp RZ Rd Xb Da Wa
theorem sh_low {n : Nat} {x : Str} (h : ∀ c ∈ TL.tl x, c < 128) : Sh n (.str x) := by
  refine ⟨?_, Nat.zero_le _⟩
  show x.cps.all _ = true
  rw [Array.all_eq_true_iff_forall_mem]
  intro c hc
  have := h c (Array.mem_toList_iff.mpr hc)
  exact decide_eq_true (by omega)
theorem joinL_mem {c : Nat} {S : List Nat} : ∀ {l : List (List Nat)}, c ∈ TL.joinL S l → c ∈ S ∨ ∃ p ∈ l, c ∈ p
  | [], h => by cases h
  | [p], h => .inr ⟨p, List.mem_singleton.mpr rfl, h⟩
  | p :: q :: r, h => by
    have h : c ∈ p ++ (S ++ TL.joinL S (q :: r)) := h
    rcases List.mem_append.mp h with h | h
    · exact .inr ⟨p, List.mem_cons_self .., h⟩
    rcases List.mem_append.mp h with h | h
    · exact .inl h
    · rcases joinL_mem (l := q :: r) h with h | ⟨z, hz, h⟩
      · exact .inl h
      · exact .inr ⟨z, List.mem_cons_of_mem _ hz, h⟩
theorem lot_low {l : Lot} (h : ∀ x ∈ l, IsNm x) : ∀ c ∈ TL.tl (Txt.join sp l), c < 128 := by
  intro c hc
  rw [TL.join_eq, TL.tl_join] at hc
  rcases joinL_mem hc with hc | ⟨p, hp, hc⟩
  · have e : TL.tl sp = [32] := by decide
    rw [e] at hc
    have := List.mem_singleton.mp hc
    omega
  · obtain ⟨x, hx, rfl⟩ := List.mem_map.mp hp
    have := (h x hx).2.2 c hc
    omega
theorem tlE : TL.tl Str.empty = [] := rfl
theorem all2_strs {K : PySem.W.Frag} {H : Hp} : ∀ l : List Str, All2 (fun v b => Dp K H v (PyData.str b)) (l.map V.str) l
  | [] => .nil
  | x :: l => .cons (.str x) (all2_strs l)
theorem law_row0 (n : Str) : roomS ++ n ++ Str.empty = Str.empty ++ roomS ++ n := TL.ext_tl (by simp [TL.tl_append, tlE])
theorem law_row1 (n t : Str) : roomS ++ n ++ (sp ++ t) = Str.empty ++ roomS ++ n ++ sp ++ t := TL.ext_tl (by simp [TL.tl_append, tlE])
theorem law_jn (wd : Str) : Str.empty ++ wd = wd := TL.ext_tl (by simp [TL.tl_append, tlE])
section
variable {P : Program} {w : World} {K : PySem.W.Frag} {mg : Str → Option Value} {base : Heap}
/-! ### _law_text -/
abbrev s__law_text : Stmt := top 39
theorem sc__law_text : FnScope ["rooms", "gongs", "calls", "lines", "name", "tale", "lots", "word", "joins", "one", "other", "lot"] ["rooms", "gongs", "calls"] (defScope s__law_text) := ⟨rfl, rfl, rfl, by decide +kernel, rfl, by decide +kernel, by decide +kernel⟩
def spLText (K : PySem.W.Frag) : Sp := fun vs H Q _ => ∃ (a b c : Addr) (R : RD), vs = [.ref a, .ref b, .ref c] ∧ ListAt K H a rmD R.rooms ∧ ListAt K H b jnD R.gongs ∧ ListAt K H c jnD R.calls ∧ RSm R ∧ ∀ H', Same H H' → Q (.str (textR R)) H'
theorem ok_ltext {f : Addr} {fd : FuncData} (F : Fun K "_law_text" "_law_text" s__law_text f fd) (n_str : mg "str" = none) : FnOk P w K mg base CX0 1 f fd ["rooms", "gongs", "calls"] (spLText K) := by
  refine F.ok sc__law_text (fun vs H Q E h => ?_) (fun cdv A outer s H vs Q E hr h => ?_)
  · obtain ⟨_, _, _, _, rfl, _⟩ := h
    rfl
  · obtain ⟨a, b, c, R, rfl, ⟨xs, ea, al⟩, lb, lc, sm, q⟩ := h
    refine ⟨_, (pss_cons (ps_set (i := 3) sc__law_text.nd rfl (Or.inl rfl) (pe_lst pa_nil))
    (Evl.pss_cut (ps_for PassesOwn.never rfl (pi_seq (pv 0)) (pg_tup rfl (pgs_cons (pg_name (i := 4) sc__law_text.nd rfl (Or.inl rfl)) (pgs_cons (pg_name (i := 5) sc__law_text.nd rfl (Or.inl rfl)) pgs_nil)))
      (Evl.pss_cut (ps_setLc (i := 6) (own := [("lot", 11)]) (g := gName 11) (by rfl) sc__law_text.nd rfl rfl (sw_true rfl rfl rfl (by decide +kernel)) (pi_seq (pv 5)) (blkOk_by (N := ["rooms", "gongs", "calls", "lines", "name", "tale", "lots", "word", "joins", "one", "other", "lot"]) (sc := defScope s__law_text) (by decide +kernel)) (fun _ _ _ _ _ => pg_name (i := 11) sc__law_text.nd rfl (Or.inl rfl)) (fun _ _ _ _ _ => pts_nil) (fun _ _ _ _ _ => pe_joinK K rfl pe_str (pv 11)))
    (pss_one (ps_expr (pe_bm PySem.F.plainAttrs_list PySem.F.slot_list_append PySem.F.type_list_append mt_append (pv 3) (pa_cons (pe_op op_add_str (pe_op op_add_str pe_str (pv 4)) (pe_ifExp (pt_cmpR (op_neD hr.units) (pv 6) (pe_lst pa_nil) (nomark _)) (pe_op op_add_str pe_str (pe_joinK K rfl pe_str (pv 6))) pe_str)) pa_nil))))))
    (Evl.pss_cut (ps_for PassesOwn.never rfl (pi_seq (pe_tup (pa_cons (pe_tup (pa_cons pe_str (pa_cons (pv 1) pa_nil))) (pa_cons (pe_tup (pa_cons pe_str (pa_cons (pv 2) pa_nil))) pa_nil)))) (pg_tup rfl (pgs_cons (pg_name (i := 7) sc__law_text.nd rfl (Or.inl rfl)) (pgs_cons (pg_name (i := 8) sc__law_text.nd rfl (Or.inl rfl)) pgs_nil)))
      (pss_one (ps_for PassesOwn.never rfl (pi_seq (pv 8)) (pg_tup rfl (pgs_cons (pg_name (i := 9) sc__law_text.nd rfl (Or.inl rfl)) (pgs_cons (pg_name (i := 10) sc__law_text.nd rfl (Or.inl rfl)) pgs_nil)))
      (pss_one (ps_expr (pe_bm PySem.F.plainAttrs_list PySem.F.slot_list_append PySem.F.type_list_append mt_append (pv 3) (pa_cons (pe_op op_add_str (pe_op op_add_str (pe_op op_add_str (pe_op op_add_str (pe_op op_add_str (pe_op op_add_str (pe_op op_add_str (pe_op op_add_str (pv 7) pe_str) (pe_ix ix_tup (pv 9) pe_int (fun _ _ => rfl))) pe_str) (pe_callTy call_str_int (by rfl) n_str (by decide +kernel) (pa_cons (pe_ix ix_tup (pv 9) pe_int (fun _ _ => rfl)) pa_nil))) pe_str) (pe_ix ix_tup (pv 10) pe_int (fun _ _ => rfl))) pe_str) (pe_callTy call_str_int (by rfl) n_str (by decide +kernel) (pa_cons (pe_ix ix_tup (pv 10) pe_int (fun _ _ => rfl)) pa_nil))) pa_nil)))))))
    (pss_one (ps_ret (pe_joinK K rfl pe_str (pv 3))))))), ?_⟩
    refine ⟨by show 0 ≤ sizeLine; decide, fun l hl => ?_⟩
    have s1 := same_new hl (.lst [])
    have el : upd H l (.lst []) l = some (.lst []) := upd_same
    generalize upd H l (.lst []) = H1 at s1 el ⊢
    have kpl : ∀ {H2 : Hp}, Kept l H1 H2 → Same H H2 := fun {H2} k b o e => k b o (s1 b o e) (ne_of_none e hl)
    have nal := ne_of_none ea hl
    refine ⟨fun σ H' => (∃ o4 o5 o6, σ = [some (.ref a), some (.ref b), some (.ref c), some (.ref l), o4, o5, o6, none, none, none, none, none]) ∧ Kept l H1 H' ∧ H' l = some (.lst ((R.rooms.map rmRow).map V.str)), ?_, ?_⟩
    · refine ⟨_, rfl, a, _, rfl, SqX.lst (s1 _ _ ea), fun J S W s0 => ?_⟩
      refine for_sq W (fun i σ H' => (∃ o4 o5 o6, σ = [some (.ref a), some (.ref b), some (.ref c), some (.ref l), o4, o5, o6, none, none, none, none, none]) ∧ Kept l H1 H' ∧ H' l = some (.lst (((R.rooms.take i).map rmRow).map V.str))) ⟨⟨none, none, none, rfl⟩, Kept.refl _ _, el⟩ (fun i σ H' pv => W.keep (fun o e => pv.2.1 _ _ e nal) s0) ?_ ?_
      · rintro i σ H2 y ey ⟨⟨o4, o5, o6, rfl⟩, k2, e2⟩
        obtain ⟨r, er, dr⟩ := al.get ey
        have hr' := at_mem er
        obtain ⟨b', vt, rfl, hb, ht⟩ := dp_rm (dp_same (kpl k2) dr)
        obtain ⟨tb, ys, rfl, htb, tl⟩ := dp_seq ht
        have nr := sm.nm.r r hr'
        have nt := sm.nt r hr'
        refine ⟨b', _, rfl, hb, rfl, _, _, rfl, _, _, rfl, rfl, ?_⟩
        refine ⟨fun σ H' => ∃ D, σ = [some (.ref a), some (.ref b), some (.ref c), some (.ref l), some (.str r.1), some (.ref tb), some (.ref D), none, none, none, none, none] ∧ Same H2 H' ∧ H' D = some (.lst ((r.2.map fun l => Txt.join sp l).map V.str)), ?_, ?_⟩
        · refine ⟨_, rfl, tb, ys, rfl, .inr htb, fun J S W s0 D hD => ?_⟩
          refine lc_mf (ds := r.2) W (fun _ => true) (fun _ y l => y = .str (Txt.join sp l)) s0 hD tl.len (fun i' y lt H3 ey' elt s m => ?_) (fun H3 zs s e al2 => ?_)
          · obtain ⟨l', el', dl⟩ := tl.get ey'
            obtain rfl : l' = lt := Option.some.inj (el'.symm.trans elt)
            obtain ⟨lb, rfl, hlb⟩ := dp_lot (dp_same s dl)
            have hl' := at_mem elt
            refine ⟨rfl, ⟨_, rfl⟩, _, rfl, sp, lb, l', rfl, rfl, .inr hlb, Nat.le_trans (lot_tl (nt.2 l' hl') (nr.2 l' hl')) (by decide), ?_⟩
            exact mf_yes m hD (fun _ _ _ _ _ h => h) elt (by have := nt.1; omega) (Same.refl _) rfl rfl
          · rw [Rd.filter_all] at al2
            have ez : zs = (r.2.map fun l => Txt.join sp l).map V.str := by rw [List.map_map]; exact al2.map_eq fun _ _ h => h
            rw [ez] at e
            exact ⟨D, rfl, s, e⟩
        rintro σ H3 ⟨D, rfl, s, e⟩
        have e3 : H3 l = some (.lst (((R.rooms.take i).map rmRow).map V.str)) := s _ _ e2
        have rl := rmRow_len sm hr'
        have ln : (((R.rooms.take i).map rmRow).map V.str).length < sizeLine := by
          rw [List.length_map, List.length_map, sizeLine_eq]
          have := sm.nr
          have : (R.rooms.take i).length ≤ R.rooms.length := List.length_take_le' ..
          omega
        have post : ∀ (t : Addr) (z : Str), H3 t = none → z = rmRow r → (∃ o4 o5 o6, ([some (.ref a), some (.ref b), some (.ref c), some (.ref l), some (.str r.1), some (.ref tb), some (.ref D), none, none, none, none, none] : L2.St) = [some (.ref a), some (.ref b), some (.ref c), some (.ref l), o4, o5, o6, none, none, none, none, none]) ∧ Kept l H1 (upd (upd H3 t (.lst [])) l (.lst (((R.rooms.take i).map rmRow).map V.str ++ [V.str z]))) ∧ upd (upd H3 t (.lst [])) l (.lst (((R.rooms.take i).map rmRow).map V.str ++ [V.str z])) l = some (.lst (((R.rooms.take (i + 1)).map rmRow).map V.str)) := fun t z ht hz => by
          subst hz
          refine ⟨⟨_, _, _, rfl⟩, ((k2.trans (Hb.Same.kept s)).trans (Hb.Same.kept (same_new ht _))).trans kept_upd, ?_⟩
          rw [upd_same, List.take_add_one, er, List.map_append, List.map_append]; rfl
        refine ⟨_, rfl, .inl ⟨rfl, _, SqL.of e3⟩, ?_⟩
        refine ⟨_, rfl, _, _, rfl, rfl, by have h := nr.1.2.1; show roomS.length + r.1.length ≤ _; rw [room_len, sizeLine_eq]; omega, _, rfl, by show 0 ≤ sizeLine; decide, fun t ht => ?_⟩
        have s4 := same_new ht (.lst [])
        have dS : All2 (fun v b => Dp K (upd H3 t (.lst [])) v (PyData.str b)) ((r.2.map fun l => Txt.join sp l).map V.str) (r.2.map fun l => Txt.join sp l) := all2_strs _
        refine rd_neD (s4 _ _ e) dS eqv_str ((sh_lst fun x hx => ?_).ok (n := 1) (by decide)) upd_same ⟨_, rfl, ?_⟩
        · obtain ⟨l', hl', rfl⟩ := List.mem_map.mp hx
          exact sh_low (n := 0) (lot_low (nr.2 l' hl'))
        refine iteN (fun ne => ?_) fun em => ?_
        · have c : r.2 ≠ [] := fun z => ne (by rw [z]; rfl)
          have er0 : rmRow r = Str.empty ++ roomS ++ r.1 ++ sp ++ lotsT r.2 := if_neg c
          refine ⟨⟨_, rfl⟩, _, rfl, cm, D, _, rfl, rfl, .inl (SqL.of (s4 _ _ e)), Nat.le_trans (tale_tl nt.1 nt.2 nr.2) (by decide), ?_⟩
          have l1 := lotsT_len nt.1 nt.2 nr.2
          have l2 := nr.1.2.1
          refine ⟨_, _, rfl, rfl, by show sp.length + (lotsT r.2).length ≤ _; rw [sp_len, sizeLine_eq]; omega, _, _, rfl, rfl, by show (roomS ++ r.1).length + (sp ++ lotsT r.2).length ≤ _; rw [slen, slen, room_len, sp_len, sizeLine_eq]; omega, ?_⟩
          exact ⟨l, _, _, rfl, rfl, s4 _ _ e3, ln, post t _ ht (by rw [er0]; exact law_row1 _ _)⟩
        · have c : r.2 = [] := List.map_eq_nil_iff.mp em
          have er0 : rmRow r = Str.empty ++ roomS ++ r.1 := if_pos c
          have l2 := nr.1.2.1
          refine ⟨_, _, rfl, rfl, by show (roomS ++ r.1).length + 0 ≤ _; rw [slen, room_len, sizeLine_eq]; omega, ?_⟩
          exact ⟨l, _, _, rfl, rfl, s4 _ _ e3, ln, post t _ ht (by rw [er0]; exact law_row0 _)⟩
      · rintro σ H2 ⟨h1, k2, e2⟩
        rw [al.len, List.take_of_length_le (Nat.le_refl _)] at e2
        exact ⟨h1, k2, e2⟩
    rintro σ H2 ⟨⟨o4, o5, o6, rfl⟩, k2, e2⟩
    have s2 := kpl k2
    let rwN : Nat → List Str := fun i => match i with
      | 0 => R.rooms.map rmRow
      | 1 => R.rooms.map rmRow ++ R.gongs.map (jnRow gongS)
      | _ => rowsR R
    have cnt := rows_sum sm
    have rcnt : ∀ i, (rwN i).length ≤ 30 := fun i => by
      have := sm.nr; have := sm.ng; have := sm.nc
      match i with
      | 0 => show (R.rooms.map rmRow).length ≤ 30; rw [List.length_map]; omega
      | 1 => show (R.rooms.map rmRow ++ R.gongs.map (jnRow gongS)).length ≤ 30; simp only [List.length_append, List.length_map]; omega
      | _ + 2 => show ((R.rooms.map rmRow ++ R.gongs.map (jnRow gongS)) ++ R.calls.map (jnRow callS)).length ≤ 30; simp only [List.length_append, List.length_map]; omega
    refine ⟨fun σ H' => (∃ o7 o8 o9 o10, σ = [some (.ref a), some (.ref b), some (.ref c), some (.ref l), o4, o5, o6, o7, o8, o9, o10, none]) ∧ Kept l H1 H' ∧ H' l = some (.lst ((rowsR R).map V.str)), ?_, ?_⟩
    · refine ⟨_, rfl, by show 2 ≤ sizeLine; decide, fun t1 h1 => ?_⟩
      have s3 := same_new h1 (.tup [V.str (Str.ofString "gong"), .ref b])
      have e3 : upd H2 t1 (.tup [V.str (Str.ofString "gong"), .ref b]) t1 = some (.tup [V.str (Str.ofString "gong"), .ref b]) := upd_same
      generalize upd H2 t1 (.tup [V.str (Str.ofString "gong"), .ref b]) = H3 at s3 e3 ⊢
      refine ⟨_, rfl, by show 2 ≤ sizeLine; decide, fun t2 h2 => ?_⟩
      have s4 := same_new h2 (.tup [V.str (Str.ofString "call"), .ref c])
      have e4 : upd H3 t2 (.tup [V.str (Str.ofString "call"), .ref c]) t2 = some (.tup [V.str (Str.ofString "call"), .ref c]) := upd_same
      generalize upd H3 t2 (.tup [V.str (Str.ofString "call"), .ref c]) = H4 at s4 e4 ⊢
      refine ⟨by show 2 ≤ sizeLine; decide, fun tt h3 => ?_⟩
      have s5 := same_new h3 (.tup [V.ref t1, .ref t2])
      have e5 : upd H4 tt (.tup [V.ref t1, .ref t2]) tt = some (.tup [V.ref t1, .ref t2]) := upd_same
      generalize upd H4 tt (.tup [V.ref t1, .ref t2]) = H5 at s5 e5 ⊢
      have s25 := (s3.trans s4).trans s5
      have k5 := k2.trans (Hb.Same.kept s25)
      have e25 := s25 _ _ e2
      have n1 : t1 ≠ l := (ne_of_none e2 h1).symm
      have n2 : t2 ≠ l := (ne_of_none (s3 _ _ e2) h2).symm
      have n3 : tt ≠ l := (ne_of_none (s4 _ _ (s3 _ _ e2)) h3).symm
      refine ⟨tt, _, rfl, SqX.tup e5, fun J S W s0 => ?_⟩
      refine for_sq W (fun i σ H' => (∃ o7 o8 o9 o10, σ = [some (.ref a), some (.ref b), some (.ref c), some (.ref l), o4, o5, o6, o7, o8, o9, o10, none]) ∧ Kept l H5 H' ∧ H' l = some (.lst ((rwN i).map V.str))) ⟨⟨none, none, none, none, rfl⟩, Kept.refl _ _, e25⟩ (fun i σ H' pv => W.keep (fun o e => pv.2.1 _ _ e n3) s0) ?_ ?_
      · rintro i σ H6 y ey ⟨⟨o7, o8, o9, o10, rfl⟩, k6, e6⟩
        have s06 := kpl (k5.trans k6)
        obtain ⟨wd, tb, jb, js, rfl, et, lj, lw, hj, hi, rw1, nj⟩ : ∃ (wd : Str) (tb jb : Addr) (js : List Jn), y = .ref tb ∧ H6 tb = some (.tup [.str wd, .ref jb]) ∧ ListAt K H jb jnD js ∧ wd.length = 4 ∧ (∀ j ∈ js, NmJ j) ∧ (∀ j ∈ js, 0 ≤ j.1.2 ∧ j.1.2 < 100 ∧ 0 ≤ j.2.2 ∧ j.2.2 < 100) ∧ rwN (i + 1) = rwN i ++ js.map (jnRow wd) ∧ js.length ≤ 10 := by
          match i, ey with
          | 0, ey =>
            obtain rfl : V.ref t1 = y := Option.some.inj ey
            exact ⟨gongS, t1, b, R.gongs, rfl, k6 _ _ (s5 _ _ (s4 _ _ e3)) n1, lb, rfl, sm.nm.g, sm.ig, rfl, sm.ng⟩
          | 1, ey =>
            obtain rfl : V.ref t2 = y := Option.some.inj ey
            exact ⟨callS, t2, c, R.calls, rfl, k6 _ _ (s5 _ _ e4) n2, lc, rfl, sm.nm.c, sm.ic, rfl, sm.nc⟩
          | n + 2, ey => cases ey
        obtain ⟨jxs, ejb, jal⟩ := lj
        have njl := ne_of_none ejb hl
        refine ⟨tb, _, rfl, SqT.of et, rfl, _, _, rfl, _, _, rfl, rfl, ?_⟩
        refine ⟨_, rfl, jb, jxs, rfl, SqX.lst (s06 _ _ ejb), fun J2 S2 W2 z0 => ?_⟩
        refine for_sq W2 (fun k σ H' => (∃ o9 o10, σ = [some (.ref a), some (.ref b), some (.ref c), some (.ref l), o4, o5, o6, some (.str wd), some (.ref jb), o9, o10, none]) ∧ Kept l H6 H' ∧ H' l = some (.lst ((rwN i ++ (js.take k).map (jnRow wd)).map V.str))) ⟨⟨_, _, rfl⟩, Kept.refl _ _, by rw [List.take_zero, List.map_nil, List.append_nil]; exact e6⟩ (fun k σ H' pv => W2.keep (fun o e => pv.2.1 _ _ e njl) z0) ?_ ?_
        · rintro k σ H7 y2 ey2 ⟨⟨o9', o10', rfl⟩, k7, e7⟩
          obtain ⟨j', ej', dj'⟩ := jal.get ey2
          obtain ⟨bj, v1, v2, rfl, hbj, g1, g2⟩ := dp_jn (dp_same (kpl ((k5.trans k6).trans k7)) dj')
          obtain ⟨b1, rfl, hb1⟩ := dp_st g1
          obtain ⟨b2, rfl, hb2⟩ := dp_st g2
          have njj := hj j' (at_mem ej')
          have ij := hi j' (at_mem ej')
          have x1 := njj.1.2.1
          have x2 := njj.2.2.1
          have i1 := iS_len ij.1 ij.2.1
          have i2 := iS_len ij.2.2.1 ij.2.2.2
          have rc := rcnt (i + 1)
          rw [rw1, List.length_append, List.length_map] at rc
          refine ⟨bj, _, rfl, hbj, rfl, _, _, rfl, _, _, rfl, rfl, ?_⟩
          refine ⟨_, rfl, .inl ⟨rfl, _, SqL.of e7⟩, ?_⟩
          refine ⟨_, rfl, wd, sp, rfl, rfl, by simp only [sp_len, sizeLine_eq]; omega, ?_⟩
          refine ⟨_, rfl, b1, _, _, _, rfl, rfl, hb1, at0, wd ++ sp, j'.1.1, rfl, rfl, by simp only [slen, sp_len, sizeLine_eq]; omega, wd ++ sp ++ j'.1.1, sp, rfl, rfl, by simp only [slen, sp_len, sizeLine_eq]; omega, ?_⟩
          refine ⟨_, rfl, b1, _, _, _, rfl, rfl, hb1, at1, j'.1.2, rfl, lg ij.1 ij.2.1, wd ++ sp ++ j'.1.1 ++ sp, iS j'.1.2, rfl, rfl, by simp only [slen, sp_len, sizeLine_eq]; omega, wd ++ sp ++ j'.1.1 ++ sp ++ iS j'.1.2, sp, rfl, rfl, by simp only [slen, sp_len, sizeLine_eq]; omega, ?_⟩
          refine ⟨_, rfl, b2, _, _, _, rfl, rfl, hb2, at0, wd ++ sp ++ j'.1.1 ++ sp ++ iS j'.1.2 ++ sp, j'.2.1, rfl, rfl, by simp only [slen, sp_len, sizeLine_eq]; omega, wd ++ sp ++ j'.1.1 ++ sp ++ iS j'.1.2 ++ sp ++ j'.2.1, sp, rfl, rfl, by simp only [slen, sp_len, sizeLine_eq]; omega, ?_⟩
          refine ⟨_, rfl, b2, _, _, _, rfl, rfl, hb2, at1, j'.2.2, rfl, lg ij.2.2.1 ij.2.2.2, wd ++ sp ++ j'.1.1 ++ sp ++ iS j'.1.2 ++ sp ++ j'.2.1 ++ sp, iS j'.2.2, rfl, rfl, by simp only [slen, sp_len, sizeLine_eq]; omega, ?_⟩
          have lk := List.length_take_le' k js
          refine ⟨l, _, _, rfl, rfl, e7, by rw [List.length_map, List.length_append, List.length_map, sizeLine_eq]; omega, ⟨_, _, rfl⟩, k7.trans kept_upd, ?_⟩
          have ee : rwN i ++ (js.take (k + 1)).map (jnRow wd) = (rwN i ++ (js.take k).map (jnRow wd)) ++ [jnRow wd j'] := by
            rw [List.take_add_one, ej', List.map_append, List.append_assoc]; rfl
          rw [upd_same, ee, List.map_append (l₂ := [jnRow wd j'])]
          show _ = some (HO.lst (_ ++ [V.str (jnRow wd j')]))
          unfold jnRow
          rw [law_jn]
        · rintro σ H7 ⟨⟨o9', o10', rfl⟩, k7, e7⟩
          rw [jal.len, List.take_of_length_le (Nat.le_refl _), ← rw1] at e7
          exact ⟨⟨_, _, _, _, rfl⟩, k6.trans k7, e7⟩
      · rintro σ H6 ⟨h1, k6, e6⟩
        exact ⟨h1, k5.trans k6, e6⟩
    rintro σ H6 ⟨⟨o7, o8, o9, o10, rfl⟩, k6, e6⟩
    exact ⟨⟨_, rfl⟩, _, rfl, nl, l, rowsR R, rfl, rfl, .inl (SqL.of e6), Nat.le_trans cnt (by decide), q _ (kpl k6)⟩
end
end R0

namespace R0
open PySem PySem.Spec PyProof.Rows L2 Hb St Sq Ow En Zp RZ Rd Xb Da Wa
/-! ### the mathematics of kept rooms -/
theorem RLaw.half {rs : List Rm} {gs cs : List Jn} (h : RLaw rs gs cs) : RHalf rs := ⟨h.nm, h.nr, h.tl, h.ne⟩
theorem nms3_nd : ∀ ns ∈ nms3, ns.Nodup := by decide +kernel
theorem RHalf.nd {rs : List Rm} (h : RHalf rs) : (rs.map (·.1)).Nodup := by
  obtain ⟨ns, hn, e⟩ := h.nm
  rw [e]
  exact (List.take_sublist _ _).nodup (nms3_nd ns hn)
def nms7 : List Str := [Str.ofString "a", Str.ofString "b", Str.ofString "c", Str.ofString "zoo", Str.ofString "hall", Str.ofString "abcdefgh", Str.ofString "abcdefgi"]
theorem nms3_7 : ∀ ns ∈ nms3, ∀ n ∈ ns, n ∈ nms7 := by decide +kernel
theorem RHalf.in7 {rs : List Rm} (h : RHalf rs) : ∀ r ∈ rs, r.1 ∈ nms7 := by
  obtain ⟨ns, hn, e⟩ := h.nm
  intro r hr
  have : r.1 ∈ rs.map (·.1) := List.mem_map_of_mem hr
  rw [e] at this
  exact nms3_7 ns hn _ (List.mem_of_mem_take this)
def noneS : Str := Str.ofString "none"
theorem none7 : noneS ∉ nms7 := by decide +kernel
theorem nd_in {rs : List Rm} (nd : (rs.map (·.1)).Nodup) {r r' : Rm} (h : r ∈ rs) (h' : r' ∈ rs) (e : r.1 = r'.1) : r = r' := by
  induction rs with
  | nil => cases h
  | cons a rs ih =>
    rw [List.map_cons] at nd
    obtain ⟨n1, n2⟩ := List.nodup_cons.mp nd
    rcases List.mem_cons.mp h with h1 | h1
    · rcases List.mem_cons.mp h' with h2 | h2
      · rw [h1, h2]
      · exact absurd (by rw [← h1, e]; exact List.mem_map_of_mem h2) n1
    · rcases List.mem_cons.mp h' with h2 | h2
      · exact absurd (by rw [← h2, ← e]; exact List.mem_map_of_mem h1) n1
      · exact ih n2 h1 h2
theorem lk_hit {rs : List Rm} (nd : (rs.map (·.1)).Nodup) {r : Rm} (h : r ∈ rs) : rs.lookup r.1 = some r.2 := by
  induction rs with
  | nil => cases h
  | cons a rs ih =>
    have nd0 := nd
    rw [List.map_cons] at nd
    obtain ⟨n1, n2⟩ := List.nodup_cons.mp nd
    rw [List.lookup_cons]
    by_cases e : r.1 = a.1
    · obtain rfl := nd_in nd0 h (List.mem_cons_self ..) e
      simp
    · rw [beq_eq_false_iff_ne.mpr e]
      rcases List.mem_cons.mp h with rfl | h
      · exact absurd rfl e
      · exact ih n2 h
theorem lk_miss {rs : List Rm} {x : Str} (h : ∀ r ∈ rs, r.1 ≠ x) : rs.lookup x = none := by
  induction rs with
  | nil => rfl
  | cons a rs ih =>
    rw [List.lookup_cons, beq_eq_false_iff_ne.mpr (fun e => h a (List.mem_cons_self ..) e.symm)]
    exact ih fun r hr => h r (List.mem_cons_of_mem _ hr)
theorem lot_miss {d : PyData} : ∀ {rs : List Rm}, (∀ r ∈ rs, stB [(r.1, (r.2.length : Int))] d = false) → lotOfR rs d = none
  | [], _ => rfl
  | r :: rs, h => by
    unfold lotOfR
    rw [h r (List.mem_cons_self ..), if_neg Bool.false_ne_true]
    exact lot_miss fun r hr => h r (List.mem_cons_of_mem _ hr)
theorem st_ne {x y : Str} {n : Int} {b : PyData} (h : y ≠ x) : stB [(x, n)] (.tuple [.str y, b]) = false := by
  show (nmB y && _) = false
  rw [List.lookup_cons, beq_eq_false_iff_ne.mpr h]
  simp
theorem st_eq {x : Str} {n : Int} {b : PyData} : stB [(x, n)] (.tuple [.str x, b]) = (nmB x && (cntD b && (match b with
      | .int i => decide (i ≤ n)
      | _ => false))) := by
  show (nmB x && _) = _
  rw [List.lookup_cons, beq_self_eq_true] <;> rfl
theorem lot_hit {rs : List Rm} (nd : (rs.map (·.1)).Nodup) {r : Rm} (h : r ∈ rs) (nm : nmB r.1 = true) {i : Int} (i1 : 1 ≤ i) (i2 : i ≤ r.2.length) : lotOfR rs (.tuple [.str r.1, .int i]) = r.2[(i - 1).toNat]? := by
  induction rs with
  | nil => cases h
  | cons a rs ih =>
    have nd0 := nd
    rw [List.map_cons] at nd
    obtain ⟨n1, n2⟩ := List.nodup_cons.mp nd
    unfold lotOfR
    by_cases e : r.1 = a.1
    · obtain rfl := nd_in nd0 h (List.mem_cons_self ..) e
      have hst : stB [(r.1, (r.2.length : Int))] (.tuple [.str r.1, .int i]) = true := by
        rw [st_eq, nm]
        show (true && (decide (1 ≤ i) && decide (i ≤ (r.2.length : Int)))) = true
        rw [decide_eq_true i1, decide_eq_true i2]; rfl
      rw [hst, if_pos rfl]
    · rw [st_ne e, if_neg Bool.false_ne_true]
      rcases List.mem_cons.mp h with rfl | h
      · exact absurd rfl e
      · exact ih n2 h
theorem lot_no {rs : List Rm} (nd : (rs.map (·.1)).Nodup) {r : Rm} (h : r ∈ rs) {b : PyData} (hb : (cntD b && (match b with
      | .int i => decide (i ≤ (r.2.length : Int))
      | _ => false)) = false) : lotOfR rs (.tuple [.str r.1, b]) = none := lot_miss fun r' hr' => by
  by_cases e : r.1 = r'.1
  · obtain rfl := nd_in nd h hr' e
    rw [st_eq, hb, Bool.and_false]
  · exact st_ne e
/-- where a bell rings -/
def spots (bell : Str) : Tale → Nat → List Nat
  | [], _ => []
  | l :: r, j => if bell ∈ l then j :: spots bell r (j + 1) else spots bell r (j + 1)
theorem evL_spots {bell : Str} : ∀ (t : Tale) (k j : Nat), evL bell t ((k : Int) + 1) j = (spots bell t j)[k]?
  | [], _, _ => rfl
  | l :: r, k, j => by
    unfold evL spots
    by_cases c : bell ∈ l
    · rw [if_pos c, if_pos c]
      cases k with
      | zero => rw [if_pos (by omega)]; rfl
      | succ k =>
        rw [if_neg (by omega), show (((k + 1 : Nat) : Int) + 1 - 1) = (k : Int) + 1 by omega, evL_spots r k (j + 1)]; rfl
    · rw [if_neg c, if_neg c, evL_spots r k (j + 1)]
theorem spots_len {bell : Str} : ∀ (t : Tale) (j : Nat), (spots bell t j).length ≤ t.length
  | [], _ => Nat.le_refl _
  | l :: r, j => by
    have ih := spots_len r (j + 1) (bell := bell)
    unfold spots
    split
    · exact Nat.succ_le_succ ih
    · exact Nat.le_succ_of_le ih
theorem spots_app {bell : Str} (l : Lot) : ∀ (t : Tale) (j : Nat), spots bell (t ++ [l]) j = spots bell t j ++ (if bell ∈ l then [j + t.length] else [])
  | [], j => by
    show (if bell ∈ l then [j] else []) = _
    rfl
  | a :: t, j => by
    rw [List.cons_append]
    unfold spots
    rw [spots_app l t (j + 1), List.length_cons, show j + 1 + t.length = j + (t.length + 1) by omega]
    split <;> rfl
theorem step_miss {x bell : Str} {d : PyData} : ∀ {rs : List Rm}, (∀ r ∈ rs, r.1 ≠ x) → stepOfR x bell d rs = none
  | [], _ => rfl
  | r :: rs, h => by
    unfold stepOfR
    rw [if_neg (h r (List.mem_cons_self ..))]
    exact step_miss fun r hr => h r (List.mem_cons_of_mem _ hr)
theorem step_hit {bell : Str} {d : PyData} {rs : List Rm} (nd : (rs.map (·.1)).Nodup) {r : Rm} (h : r ∈ rs) : stepOfR r.1 bell d rs = turnN bell r.2 d := by
  induction rs with
  | nil => cases h
  | cons a rs ih =>
    have nd0 := nd
    rw [List.map_cons] at nd
    obtain ⟨n1, n2⟩ := List.nodup_cons.mp nd
    unfold stepOfR
    by_cases e : r.1 = a.1
    · obtain rfl := nd_in nd0 h (List.mem_cons_self ..) e
      rw [if_pos rfl, step_miss fun r' hr' z => n1 (by rw [← z]; exact List.mem_map_of_mem hr')]
      cases turnN bell r.2 d <;> rfl
    · rw [if_neg fun z => e z.symm]
      rcases List.mem_cons.mp h with rfl | h
      · exact absurd rfl e
      · exact ih n2 h
theorem turn_spot (bell : Str) (t : Tale) (k : Nat) : turnN bell t (.int ((k : Int) + 1)) = (spots bell t 0)[k]? := by
  show (if 1 ≤ (k : Int) + 1 then evL bell t ((k : Int) + 1) 0 else none) = _
  rw [if_pos (by omega), evL_spots]
theorem turn_0 (bell : Str) (t : Tale) : turnN bell t (.int 0) = none := rfl
theorem turn_end (bell : Str) (t : Tale) : turnN bell t (.int (((spots bell t 0).length : Nat) + 1 : Int)) = none := by
  rw [turn_spot]
  exact List.getElem?_eq_none (Nat.le_refl _)
end R0

/-! a name that holds a def which may raise; calls by keywords of such; the law itself, its code object known -/
namespace Lc
open PySem PySem.Spec PyProof.Rows L2 Hb LamX
/-- the def at f, one that may raise, keeps sp -/
structure DfX (P : Program) (w : World) (K : PySem.W.Frag) (mg : Str → Option Value) (base : Heap) (lv : Nat) (f : Addr) (sp : Sp) : Prop where
  ex : ∃ (ps : List Str) (fd : FuncData), FnOk P w K mg base (L2.CX P w) lv f fd ps sp ∧ PySem.W.keepIn K (.ref f) = true ∧ Binds K fd ps []
theorem DfX.of {P : Program} {w : World} {K : PySem.W.Frag} {mg : Str → Option Value} {base : Heap} {j lv : Nat} {f : Addr} {fd : FuncData} {ps : List Str} {sp sp' : Sp} (F : FnOk P w K mg base (L2.CX P w) j f fd ps sp') (kp : PySem.W.keepIn K (.ref f) = true) (b : Binds K fd ps []) (h : j ≤ lv) (le : ∀ vs H Q E, sp vs H Q E → sp' vs H Q E) : DfX P w K mg base lv f sp :=
  ⟨ps, fd, ⟨fun vs H Q E z => F.len vs H Q E (le _ _ _ _ z), fun A o s H args us vs Q E r e0 bi va z => F.run A o s H args us vs Q E (r.mono h) e0 bi va (le _ _ _ _ z)⟩, kp, b⟩
def tVarX (P : Program) (w : World) (K : PySem.W.Frag) (mg : Str → Option Value) (base : Heap) (lv i : Nat) (sp : Sp) (E : L2.St → XK) (ta : TA) : TE := fun σ H Q => ∃ f, σ[i]? = some (some (.ref f)) ∧ DfX P w K mg base lv f sp ∧ ta σ H fun vs H1 => sp vs H1 Q (E σ)
theorem pe_varX {X : Cx} {a : Str} {lv i : Nat} {sp : Sp} {E : L2.St → XK} {p pos : Pos} {e : Expr} {es : List Expr} {ta : TA} (nm : X.N[i]? = some a) (vis : Vis X.env.scope a) (hr : Room lv X.A) (hx : ∀ σ, PassesAt (L2.CX X.prog X.w) X σ (E σ)) (ha : PA X (e :: es) ta)
    (d1 : (a == ("__debug__" : Str)) = false := by decide) (d2 : (a == ("__classdict__" : Str)) = false := by decide)
    (se : starEach (e :: es) X.env = (false, eval e X.env) :: starEach es X.env := by rfl) (sp' : (backTo pos (starEach es X.env)).any (·.1) = false := by rfl) :
    PE X (.Call (.Name a p) (e :: es) [] pos) (tVarX X.prog X.w X.K X.mg X.base lv i sp E ta) := by
  refine ⟨fun pins s σ H Q I h => ?_⟩
  obtain ⟨f, hf, ⟨ps, fd, F, kp, b⟩, h⟩ := h
  refine wpAny_Call_Name_kw (thn ((pe_var (pos := p) (i := i) nm vis d1 d2).run pins s σ H (fun v H1 => v = .ref f ∧ H1 = H) I ⟨.ref f, hf, rfl, rfl⟩) fun u s1 ⟨v, H1, I1, r1, ev, eH⟩ => ?_)
  subst ev
  rw [eH] at I1
  obtain rfl : u = Value.ref f := r1
  refine PySem.W.callWith_K (h₀ := X.base) I1.ok.mod.kin kp (thn (ha.run pos pins s1 σ H _ I1 h) fun us s2 ⟨vs, H2, I2, r2, q⟩ => ⟨I2.kIn, ?_⟩) se sp'
  exact run_fnS F hr b (hx σ) I2 r2 q
/-- f(k = v, ..), a def that may raise -/
structure CkX (P : Program) (w : World) (K : PySem.W.Frag) (mg : Str → Option Value) (base : Heap) (x : Str) (ps : List Str) (ks : List Str) (gV : List V → List V → List V) (lv : Nat) (sp : Sp) : Prop where
  ex : ∃ (f : Addr) (fd : FuncData) (g : List Value → List Value → List Value), FnOk P w K mg base (L2.CX P w) lv f fd ps sp ∧ mg x = some (.ref f) ∧ PySem.W.keepIn K (.ref f) = true ∧ KBn K fd ps 0 ks g gV
theorem pe_useKX {X : Cx} {ps ks : List Str} {gV : List V → List V → List V} {lv : Nat} {sp : Sp} {x : Str} {p pos : Pos} {tk : TA} {kws : List Keyword} {E : XK} (C : CkX X.prog X.w X.K X.mg X.base x ps ks gV lv sp) (hr : Room lv X.A) (hx : Passes (L2.CX X.prog X.w) X E) (gl : Gl X x) (hkw : PK X kws tk)
    (hall : (backToKw pos (keywordEach kws X.env)).all (·.1.isSome) = true := by rfl) (hks : (backToKw pos (keywordEach kws X.env)).filterMap (·.1) = ks := by rfl)
    (db : (x == ("__debug__" : Str)) = false := by decide) (spl : ((backTo pos (starEach [] X.env)).any (·.1) || (backToKw pos (keywordEach kws X.env)).any (·.1.isNone)) = false := by rfl) :
    PE X (.Call (.Name x p) [] kws pos) (tCallN 0 ks.length sp gV E tNil tk) := by
  obtain ⟨f, fd, g, F, mgx, kp, b⟩ := C.ex
  refine ⟨fun pins s σ H Q I h => wpAny_Call_Name_kw (ld_glob I gl mgx ?_ db)⟩
  refine PySem.W.callWith_KW0 (h₀ := X.base) I.ok.mod.kin kp hall ?_ spl
  refine thn (hkw.run pos pins s σ H _ I h) fun ws s2 ⟨zs, H2, I2, rz, l1, l2, q2⟩ => ⟨I2.kIn, ?_⟩
  rw [hks]
  exact run_fnN (us := []) (vs := []) F hr b hx I2 .nil rz rfl l2 q2
/-- a def by its body, its code object at c -/
theorem okC {P : Program} {w : World} {K : PySem.W.Frag} {mg : Str → Option Value} {base : Heap} {x qual : Str} {st : Stmt} {f c : Addr} {oc : Value} {od an : Option Addr} {osl : Array (Option Value)} {kV doc pm ct : Value} {N ps : List Str} {k : Nat} {sp : Sp}
    (lk : K.lookup f = some ⟨oc, od, .func (PySem.W.fnOf x qual (defArgs st) (defBody st) (defScope st) .none kV doc pm an (.ref c) ct), osl⟩) (cd : PySem.W.codeIn K (.ref c) qual = true) (S : FnScope N ps (defScope st)) (len : ∀ vs H Q E, sp vs H Q E → vs.length = ps.length)
    (hbody : ∀ (A : Around) (outer : List Env) (s : Shared) (H : Hp) (vs : List V) (Q : VK) (E : XK), Room k (A.deeper (envOfC qual (defScope st) s.heap.objs.size f (.ref c))) → sp vs H Q E →
      ∃ t, PSs (cxOf CX0 P w K mg base N qual (defScope st) f (.ref c) A outer s H E).nox (defBody st) t ∧ t { nx := fun _ H' => Q .non H', rt := Q } (start N vs) H) :
    FnOk P w K mg base CX0 (k + 1) f (PySem.W.fnOf x qual (defArgs st) (defBody st) (defScope st) .none kV doc pm an (.ref c) ct) ps sp := by
  refine fn_of lk cd S len fun A outer s H vs Q E hr hsp => ?_
  obtain ⟨t, h, q⟩ := hbody A outer s H vs Q E hr hsp
  exact ⟨t, h.nox, q⟩
end Lc

/-! methods that may raise: called by position and by keyword -/
namespace Ow
open PySem PySem.Spec PyProof.Rows L2 Hb
structure ChX (P : Program) (w : World) (K : PySem.W.Frag) (mg : Str → Option Value) (base : Heap) (C : Addr) (m : Str) (ps : List Str) (dvs : List V) (lv : Nat) (sp : Sp) : Prop where
  ex : ∃ (f : Addr) (fd : FuncData) (ds : List Value), Meth K C m f ∧ FnOk P w K mg base (L2.CX P w) lv f fd ps sp ∧ Binds K fd ps ds ∧ Vals dvs ds
structure ChKX (P : Program) (w : World) (K : PySem.W.Frag) (mg : Str → Option Value) (base : Heap) (C : Addr) (m : Str) (ps ks : List Str) (gV : List V → List V → List V) (lv : Nat) (sp : Sp) : Prop where
  ex : ∃ (f : Addr) (fd : FuncData) (g : List Value → List Value → List Value), Meth K C m f ∧ FnOk P w K mg base (L2.CX P w) lv f fd ps sp ∧ KBn K fd ps 1 ks g gV
section
variable {X : Cx} {C : Addr} {ps ks : List Str} {gV : List V → List V → List V} {dvs : List V} {lv : Nat} {sp : Sp} {x m : Str} {p pos apos : Pos} {e o : Expr} {es : List Expr} {kws : List Keyword} {t tk : TA} {ta : TE} {E : XK}
theorem pe_doX {pl : Sem Bool} (M : ChX X.prog X.w X.K X.mg X.base C m ps dvs lv sp) (c : Cls X.K C) (hr : Room lv X.A) (hx : Passes (L2.CX X.prog X.w) X E) (ho : PE X o ta) (ha : PA X (e :: es) t)
    (hst : starEach (e :: es) X.env = (false, eval e X.env) :: starEach es X.env := by rfl) (hpl : (backTo pos (starEach es X.env)).any (·.1) = false := by rfl)
    (ht : eval (.Call (.Attribute o m apos) (e :: es) [] pos) X.env = (do
      let v ← eval o X.env
      standAt apos.atName
      let (f, first) ← holding [v] (getMethod v m pl)
      callWith pos f first (backTo pos (starEach (e :: es) X.env)) (backToKw pos (keywordEach [] X.env))) := by rfl) : PE X (.Call (.Attribute o m apos) (e :: es) [] pos) (tMeth C m sp dvs E ta t) := by
  obtain ⟨f, fd, ds, hm, F, hb, hd⟩ := M.ex
  exact pe_meth ho c hm F hr hb hd hx ha hst hpl ht
theorem pe_do0X {pl : Sem Bool} (M : ChX X.prog X.w X.K X.mg X.base C m ps dvs lv sp) (c : Cls X.K C) (hr : Room lv X.A) (hx : Passes (L2.CX X.prog X.w) X E) (ho : PE X o ta)
    (ht : eval (.Call (.Attribute o m apos) [] [] pos) X.env = (do
      let v ← eval o X.env
      standAt apos.atName
      let (f, first) ← holding [v] (getMethod v m pl)
      callWith pos f first (backTo pos (starEach [] X.env)) (backToKw pos (keywordEach [] X.env))) := by rfl) : PE X (.Call (.Attribute o m apos) [] [] pos) (tMeth C m sp dvs E ta tNil) := by
  obtain ⟨f, fd, ds, hm, F, hb, hd⟩ := M.ex
  exact pe_meth0 ho c hm F hr hb hd hx ht
/-- o.m(k = v, ..) -/
def tMethKX (C : Addr) (m : Str) (n : Nat) (sp : Sp) (gV : List V → List V → List V) (E : XK) (ta : TE) (tk : TA) : TE := fun σ H Q => ta σ H fun x H1 => ∃ a dx fs, x = .ref a ∧ H1 a = some (.ins C dx fs) ∧ fs.lookup m = none ∧ tk σ H1 fun zs H2 => zs.length = n ∧ sp (gV [x] zs) H2 Q E
theorem pe_doKX {pl : Sem Bool} (M : ChKX X.prog X.w X.K X.mg X.base C m ps ks gV lv sp) (c : Cls X.K C) (hr : Room lv X.A) (hx : Passes (L2.CX X.prog X.w) X E) (ho : PE X o ta) (hkw : PK X kws tk)
    (hall : (backToKw pos (keywordEach kws X.env)).all (·.1.isSome) = true := by rfl) (hks : (backToKw pos (keywordEach kws X.env)).filterMap (·.1) = ks := by rfl)
    (hpl : ((backTo pos (starEach [] X.env)).any (·.1) || (backToKw pos (keywordEach kws X.env)).any (·.1.isNone)) = false := by rfl)
    (ht : eval (.Call (.Attribute o m apos) [] kws pos) X.env = (do
      let v ← eval o X.env
      standAt apos.atName
      let (f, first) ← holding [v] (getMethod v m pl)
      callWith pos f first (backTo pos (starEach [] X.env)) (backToKw pos (keywordEach kws X.env))) := by rfl) : PE X (.Call (.Attribute o m apos) [] kws pos) (tMethKX C m ks.length sp gV E ta tk) := by
  obtain ⟨f, fd, g, hm, F, hb⟩ := M.ex
  refine ⟨fun pins s σ H Q I h => ?_⟩
  refine PySem.W.methodCall_KW (pl := pl) (thn (ho.run pins s σ H _ I h) fun u s1 ⟨x, H1, I1, rx, a, dx, fs, ex, ea, l, q⟩ => ?_) ht
  subst ex; obtain rfl : u = Value.ref a := rx
  refine getmeth_ok I1 ea c hm l ?_
  refine PySem.W.callWith_KW0 (first := [.ref a]) (h₀ := X.base) I1.ok.mod.kin hm.kp hall (thn (hkw.run pos pins s1 σ H1 _ I1 q) fun ws s2 ⟨zs, H2, I2, rz, l1, q2⟩ => ⟨I2.kIn, ?_⟩) hpl
  rw [hks]
  exact run_fnN (us := [.ref a]) (vs := [.ref a]) F hr hb hx I2 (.cons rfl .nil) rz rfl l1 q2
end
end Ow

/-! promises of defs that are called while no repr is under way: the same calculus, one thing more known of what runs around -/
namespace Gu
open PySem PySem.Spec PyProof.Rows L2
abbrev Free (A : Around) : Prop := A.guards = some []
/-- the def at f keeps its promise wherever nothing is being shown -/
structure FnG (P : Program) (w : World) (K : PySem.W.Frag) (mg : Str → Option Value) (base : Heap) (CX : CXT) (k : Nat) (f : Addr) (fd : FuncData) (ps : List Str) (sp : Sp) : Prop where
  many : ∀ vs H Q E, sp vs H Q E → vs.length = ps.length
  go : ∀ (A : Around) (outer : List Env) (s : Shared) (H : Hp) (args : Args) (us : List Value) (vs : List V) (Q : VK) (E : XK), Room k A → Free A → Env0 P w K mg base A outer s H → BindsTo s fd args (ps.zip us) → Vals vs us → sp vs H Q E →
    codeAny (model P w) A (.call (.ref f) args) (CR CX outer P w H s Q E) s
section
variable {P : Program} {w : World} {K : PySem.W.Frag} {mg : Str → Option Value} {base : Heap} {CX : CXT}
/-- a promise that is kept anywhere -/
theorem FnG.of {k : Nat} {f : Addr} {fd : FuncData} {ps : List Str} {sp : Sp} (F : FnOk P w K mg base CX k f fd ps sp) : FnG P w K mg base CX k f fd ps sp := ⟨F.len, fun A o s H a us vs Q E r _ => F.run A o s H a us vs Q E r⟩
theorem deeper_free {A : Around} {env : Env} (h : Free A) : Free (A.deeper env) := h
theorem mk_go {k : Nat} {f : Addr} {name qual : Str} {params : Arguments} {body : List Stmt} {scope : Scope} {dV kV doc pm cdv ct oc : Value} {an od : Option Addr} {osl : Array (Option Value)} {N ps : List Str} {sp : Sp}
    (at_f : K.lookup f = some ⟨oc, od, .func (PySem.W.fnOf name qual params body scope dV kV doc pm an cdv ct), osl⟩) (code : PySem.W.codeIn K cdv qual = true) (S : FnScope N ps scope) (many : ∀ vs H Q E, sp vs H Q E → vs.length = ps.length)
    (inside : ∀ (A : Around) (outer : List Env) (s : Shared) (H : Hp) (vs : List V) (Q : VK) (E : XK), Room k (A.deeper (envOfC qual scope s.heap.objs.size f cdv)) → Free A → sp vs H Q E →
      ∃ t, PSs (cxOf CX P w K mg base N qual scope f cdv A outer s H E) body t ∧ t { nx := fun _ H' => Q .non H', rt := Q } (start N vs) H) :
    FnG P w K mg base CX (k + 1) f (PySem.W.fnOf name qual params body scope dV kV doc pm an cdv ct) ps sp where
  many := many
  go A outer s H args us vs Q E room free e0 binds rel hs := by
    have count := many _ _ _ _ hs
    have stays : ∀ b o, base.get? b = some o → s.heap.get? b = some o := fun b o e => (e0.bs b o e).1
    have inK : K.In s.heap := e0.mod.kin.keeps stays
    refine codeAny_call_function room.depth (inK _ _ at_f) rfl S.co S.gen rfl (PySem.W.codeRec_of inK code) (binds _ _ _ _ ?_)
    refine wpAny_newFunctionEnv_cells S.kind (fun y hy => (S.par y.1 (List.of_mem_zip hy).1).elim Or.inl fun c => .inr ⟨c, PySem.W.cellsFrom_some _ _ _ (.inl c)⟩) fun env made s1 x => ?_
    subst made
    refine ⟨(e0.mod.nolimit.keeps stays).keeps x.toInCall.keep, codeAny_func ?_⟩
    obtain ⟨t, run, rd⟩ := inside A outer s H vs Q E (room.deeper _) free hs
    have I0 := inv_start (CX := CX) (E := E) S room.hd e0 count rel x
    refine wpAny_mono (run.run [] s1 (start N vs) H _ I0 rd) (fun fl s' out => ?_) fun _ _ z => z
    rcases fl with _ | _ | _ | u
    · obtain ⟨_, H', J, q⟩ := out
      exact ⟨V.non, H', J.os, J.bare, J.base, J.hok, rfl, q⟩
    · exact out.elim fun _ z => z.elim fun _ y => False.elim y.2
    · exact out.elim fun _ z => z.elim fun _ y => False.elim y.2
    · obtain ⟨v, _, H', J, rv, q⟩ := out
      exact ⟨v, H', J.os, J.bare, J.base, J.hok, rv, q⟩
end
/-! ### calls -/
section
variable {X : Cx} {CX : CXT} {k : Nat} {f C : Addr} {fd : FuncData} {ps : List Str} {sp : Sp} {dvs : List V} {ds : List Value} {E : XK}
theorem go_call {pins : List (Addr × Obj)} {σ : L2.St} {H : Hp} {s : Shared} {Q : VK} {args : Args} {us : List Value} {vs : List V} (F : FnG X.prog X.w X.K X.mg X.base CX k f fd ps sp) (room : Room k X.A) (free : Free X.A) (hx : Passes CX X E)
    (I : Inv X pins σ H s) (b : BindsTo s fd args (ps.zip us)) (r : Vals vs us) (h : sp vs H Q E) : codeAny (model X.prog X.w) X.A (.call (.ref f) args) (fun r s' => match r with
      | .error e => X.xe e s'
      | .ok (.ret u) => EP X pins σ Q u s'
      | .ok _ => False) s := codeAny_mono (F.go X.A X.stack s H args us vs Q E room free I.env0 b r h) fun r s' out => by
  rcases r with e | fl
  · exact hx pins σ H s e s' I out
  · rcases fl with _ | _ | _ | u <;> first | exact I.after out | exact False.elim out
end
/-- a def of the text, by its promise -/
structure Cg (P : Program) (w : World) (K : PySem.W.Frag) (mg : Str → Option Value) (base : Heap) (CX : CXT) (x : Str) (ps : List Str) (dvs : List V) (lv : Nat) (sp : Sp) : Prop where
  ex : ∃ (f : Addr) (fd : FuncData) (ds : List Value), FnG P w K mg base CX lv f fd ps sp ∧ mg x = some (.ref f) ∧ PySem.W.keepIn K (.ref f) = true ∧ Binds K fd ps ds ∧ Vals dvs ds
section
variable {X : Cx} {CX : CXT} {ps : List Str} {dvs : List V} {lv : Nat} {sp : Sp} {x : Str} {p pos : Pos} {e : Expr} {es : List Expr} {t : TA} {E : XK}
theorem pe_gox (C : Cg X.prog X.w X.K X.mg X.base CX x ps dvs lv sp) (hr : Room lv X.A) (fr : Free X.A) (hx : Passes CX X E) (hg : Gl X x) (ha : PA X (e :: es) t) (hdb : (x == ("__debug__" : Str)) = false := by decide)
    (he : starEach (e :: es) X.env = (false, eval e X.env) :: starEach es X.env := by rfl) (hpl : (backTo pos (starEach es X.env)).any (·.1) = false := by rfl) : PE X (.Call (.Name x p) (e :: es) [] pos) (tCall sp dvs E t) := by
  obtain ⟨f, fd, ds, F, hm, hk, hb, hd⟩ := C.ex
  refine ⟨fun pins s σ H Q I h => wpAny_Call_Name_kw (ld_glob I hg hm ?_ hdb)⟩
  refine PySem.W.callWith_K (h₀ := X.base) I.ok.mod.kin hk (thn (ha.run pos pins s σ H _ I h) fun us s1 ⟨vs, H1, I1, r, q⟩ => ⟨I1.kIn, ?_⟩) he hpl
  have r2 := r.append hd
  refine wpAny_call (codeAny_mono (go_call F hr fr hx I1 (hb s1 us I1.kIn (by rw [← r2.length]; exact F.many _ _ _ _ q)) r2 q) fun r s' z => ?_)
  rcases r with _ | (_ | _ | _ | _) <;> first | exact z | exact z.elim
theorem pe_go (C : Cg X.prog X.w X.K X.mg X.base CX0 x ps dvs lv sp) (hr : Room lv X.A) (fr : Free X.A) (hg : Gl X x) (ha : PA X (e :: es) t) (hdb : (x == ("__debug__" : Str)) = false := by decide)
    (he : starEach (e :: es) X.env = (false, eval e X.env) :: starEach es X.env := by rfl) (hpl : (backTo pos (starEach es X.env)).any (·.1) = false := by rfl) : PE X (.Call (.Name x p) (e :: es) [] pos) (tCall sp dvs E0 t) :=
  pe_gox C hr fr pass0 hg ha hdb he hpl
end
/-! ### repr of data -/
def rRepr (K : PySem.W.Frag) : List V → Hp → VK → Prop := fun xs H Q => ∃ v d, xs = [v] ∧ Dp K H v d ∧ PyData.showable d = true ∧ PyData.hasDict d = false ∧ PyData.depth d < 40 ∧ (PyData.shown d).length ≤ sizeLine ∧ Q (.str (PyData.shown d)) H
theorem cr_repr {X : Cx} (fr : Free X.A) (hu : X.A.units + 64 < cLine) : CallR X (.builtin "repr") (rRepr X.K) := by
  intro pins s σ H xs us Q I r h
  obtain ⟨v, d, rfl, hd, hs, hn, hdp, hz, q⟩ := h
  obtain ⟨u, rfl, ru⟩ := vals1 r
  obtain ⟨as, rd⟩ := Dp.reads I d v u hd ru
  cases hd with
  | non =>
    cases (show u = Value.none from ru)
    exact P.repr_of_none ⟨.str _, H, I.tok _, ⟨_, rfl⟩, q⟩
  | bl b =>
    cases (show u = Value.bool b from ru)
    refine P.repr_of_bool ⟨.str _, H, I.tok _, ⟨_, rfl⟩, ?_⟩
    cases b <;> exact q
  | int i =>
    obtain ⟨t, rfl⟩ := (show ∃ t, u = Value.int i t from ru)
    exact P.repr_of_int (of_decide_eq_true hs) ⟨.str _, H, I.tok _, ⟨_, rfl⟩, q⟩
  | str x =>
    obtain ⟨t, rfl⟩ := (show ∃ t, u = Value.str x t from ru)
    exact P.repr_of_str ⟨.str _, H, I.tok _, ⟨_, rfl⟩, q⟩ hz
  | lst _ _ =>
    cases (show u = Value.ref _ from ru)
    exact repr_of_reads' rd hs (PyData.noDict_hsm hn) fr (by omega) (fun _ _ e => e) (fun h' t tk k => ⟨.str _, H, I.kept k, ⟨_, rfl⟩, q⟩) hz
  | tup _ _ =>
    cases (show u = Value.ref _ from ru)
    exact repr_of_reads' rd hs (PyData.noDict_hsm hn) fr (by omega) (fun _ _ e => e) (fun h' t tk k => ⟨.str _, H, I.kept k, ⟨_, rfl⟩, q⟩) hz
/-! ### the law's own call -/
section
variable {P : Program} {w : World} {K : PySem.W.Frag} {mg : Str → Option Value} {CX : CXT}
/-- from a heap H in which nothing but the script at a may be tracked -/
theorem law_from {mb : Str → Option Value} {k : Nat} {fa a : Addr} {fd : FuncData} {x : Str} {sp : Sp} {s : Shared} {vs : List Value} {H : Hp}
    (inK : K.In s.heap) (globs : s.heap.Ns mainGlobals mg) (blt : s.heap.Ns builtinsNs mb) (same : ∀ x : Str, x ≠ "__name__" → mb x = bootBuiltins x) (lim : s.heap.NoLimit) (bare : s.gens = #[])
    (obj : s.heap.get? a = some { cls := .type "list", data := .seq vs.toArray }) (room : Room k callerA) (F : ∀ base : Heap, K.In base → base.Ns mainGlobals mg → FnG P w K mg base CX k fa fd [x] sp) (bind : ∀ (s : Shared) (u : Value), BindsTo s fd ⟨[u], []⟩ [(x, u)])
    (none_else : ∀ b u, H b = some u → b = a ∧ (∃ o xs, u = .frz o (.lst xs)) ∧ K.lookup a = none) (ok : HOk P w H s.heap) (hsp : sp [.ref a] H (fun v _ => v = .bl true) fun _ _ _ => False)
    (hCX : ∀ e s', CX [] H s (fun _ _ _ => False) e s' → False) :
    codeAny (model P w) callerA (.call (.ref fa) ⟨[.ref a], []⟩) (fun r s' => r = .ok (.ret (.bool true)) ∧ OldK s.heap s'.heap ∧ s'.os = s.os ∧ AllBare s'.gens) s := by
  have free_of : ∀ b, b ≠ a → H b = none := fun b n => by
    rcases e : H b with _ | u
    · rfl
    · exact absurd (none_else b u e).1 n
  have low : ∀ {b o}, s.heap.get? b = some o → H b = none → (hidT s.heap H).get? b = some o := fun e n => hidT_get e n
  have dicts : ∀ {b : Addr} {m : Str → Option Value}, s.heap.Ns b m → (hidT s.heap H).Ns b m := fun {b m} ⟨o, es, ep, e, d, r⟩ => by
    refine ⟨o, es, ep, low e (free_of b fun z => ?_), d, r⟩
    rw [z, obj] at e
    cases e
    exact nomatch (show Data.seq vs.toArray _ = Data.dict es ep from d)
  have kin : K.In (hidT s.heap H) := fun b o e => low (inK b o e) (by
    rcases q : H b with _ | u
    · rfl
    · obtain ⟨rfl, _, z⟩ := none_else b u q
      rw [z] at e
      cases e)
  have modl : Mod K mg (hidT s.heap H) := ⟨kin, dicts globs, ⟨mb, dicts blt, same⟩, let ⟨mc, h1, h2⟩ := lim; ⟨mc, dicts h1, h2⟩⟩
  have env : Env0 P w K mg (hidT s.heap H) callerA [] s H := ⟨rfl, modl, fun b o e => of_hidT e, Nat.le_of_eq (hidT_size _ _), trivial, fun b hb => (nomatch hb), ok, .of_eq bare⟩
  refine codeAny_mono ((F _ kin (dicts globs)).go callerA [] s H ⟨[.ref a], []⟩ [.ref a] [.ref a] _ _ room rfl env (bind s (.ref a)) (.cons rfl .nil) hsp) fun r s' out => ?_
  rcases r with e | fl
  · exact (hCX e s' out).elim
  · rcases fl with _ | _ | _ | u <;> try exact False.elim out
    obtain ⟨v, H', os, b', un, ok', rv, hv⟩ := out
    obtain rfl : v = .bl true := hv
    obtain rfl : u = Value.bool true := rv
    refine ⟨rfl, OldK.of_keep fun b o e => ?_, os, b'⟩
    rcases q : H b with _ | z
    · exact un.keep b o e q (fun m => nomatch m) (by simp)
    · obtain ⟨_, ⟨o1, xs, rfl⟩, _⟩ := none_else b z q
      have z2 := un.frzs b o1 _ q
      have old := (ok b _ q).1
      rw [e] at old
      cases old
      exact (ok' b _ z2).1
theorem law_go {mb : Str → Option Value} {k : Nat} {fa a : Addr} {fd : FuncData} {x : Str} {sp : Sp} {s : Shared} {vs : List Value} {ns : List Int}
    (inK : K.In s.heap) (globs : s.heap.Ns mainGlobals mg) (blt : s.heap.Ns builtinsNs mb) (same : ∀ x : Str, x ≠ "__name__" → mb x = bootBuiltins x) (lim : s.heap.NoLimit) (bare : s.gens = #[])
    (obj : s.heap.get? a = some { cls := .type "list", data := .seq vs.toArray }) (ivs : IntsAre vs ns) (size : ns.length ≤ sizeLine) (room : Room k callerA) (F : ∀ base : Heap, K.In base → base.Ns mainGlobals mg → FnG P w K mg base CX k fa fd [x] sp) (bind : ∀ (s : Shared) (u : Value), BindsTo s fd ⟨[u], []⟩ [(x, u)])
    (hsp : ∀ H : Hp, SqL K H a (ns.map V.int) → sp [.ref a] H (fun v _ => v = .bl true) fun _ _ _ => False) (hCX : ∀ H e s', CX [] H s (fun _ _ _ => False) e s' → False) :
    codeAny (model P w) callerA (.call (.ref fa) ⟨[.ref a], []⟩) (fun r s' => r = .ok (.ret (.bool true)) ∧ OldK s.heap s'.heap ∧ s'.os = s.os ∧ AllBare s'.gens) s := by
  have rv := vals_ints ivs
  have cnt := ivs.length
  rcases own : K.lookup a with _ | o
  · refine law_from (H := fun b => if b = a then some (.frz { cls := .type "list", data := .seq vs.toArray } (.lst (ns.map V.int))) else none) inK globs blt same lim bare obj room F bind (fun b u e => ?_) (fun b u e => ?_)
      (hsp _ (.inl (.inr ⟨_, if_pos rfl⟩))) (fun e s' => hCX _ e s')
    · by_cases hb : b = a
      · rw [if_pos hb] at e
        exact ⟨hb, ⟨_, _, (Option.some.inj e).symm⟩, own⟩
      · rw [if_neg hb] at e
        cases e
    · by_cases hb : b = a
      · subst hb
        have e' := (if_pos rfl).symm.trans e
        cases e'
        exact ⟨obj, by rw [List.length_map]; exact size, vs, _, rv, obj⟩
      · have e' := (if_neg hb).symm.trans e
        cases e'
  · have w0 := inK a o own
    rw [obj] at w0
    cases w0
    exact law_from (H := fun _ => none) inK globs blt same lim bare obj room F bind (fun b u e => (nomatch e)) (fun b u e => (nomatch e))
      (hsp _ (.inr ⟨_, vs.toArray, _, own, rfl, rfl, rfl, by rw [List.size_toArray, cnt]; exact size, by simpa using rv⟩)) (fun e s' => hCX _ e s')
end
theorem walk_go {l : PySem.W.OpenLaw} {n k : Nat} {q : Program} {loose : List Str} {XP : (Str → Option Value) → Heap → Prop} {YP : World → Heap → Prop} {d : DefRec} {K : Params → PySem.W.Frag} {sp : World → Sp} {x : Str}
    (most : l.most = some n) (small : n ≤ sizeLine) (nodf : d.params.defaults = []) (room : Room k callerA) (hY : ∀ (w : World) (h : Heap), YP w h → (K w.params).In h)
    (F : ∀ (w : World) (mg : Str → Option Value) (fa : Addr) (h : Heap), (K w.params).In h → h.Ns mainGlobals mg → mg d.name = some (.ref fa) →
      ∃ fd : FuncData, (∀ (s : Shared) (u : Value), BindsTo s fd ⟨[u], []⟩ [(x, u)]) ∧ ∀ base : Heap, (K w.params).In base → base.Ns mainGlobals mg → FnG l.prog w (K w.params) mg base CX0 k fa fd [x] (sp w))
    (hsp : ∀ (w : World) (H : Hp) (a : Addr) (ns : List Int), ns.length ≤ n → SqL (K w.params) H a (ns.map V.int) → sp w [.ref a] H (fun v _ => v = .bl true) fun _ _ _ => False) :
    PySem.W.WalkO q loose XP YP l.row.toRowW d [] (fun f vs => PySem.call f vs) := by
  refine Att.attach_call most nodf fun w s₀ s₁ mg mb fa o pm cd doc a vs ns G Y _ _ _ named obj ivs len bare => ?_
  obtain ⟨fd, bind, FF⟩ := F w mg fa _ (hY w _ Y) G.T.g named
  exact law_go (hY w _ Y) G.T.g G.T.b G.T.builtins G.T.nolimit bare obj ivs (Nat.le_trans len small) room FF bind (fun H S => hsp w H a ns len S) fun H e s' z => z
end Gu

/-! several clauses "except x as n", all with one name; repr of ints and None -/
namespace Ty
open PySem PySem.Spec PyProof.Rows L2
abbrev Cls := Addr → Value → Option Addr → TS
def offEnds (D : Ends) (i : Nat) : Ends := { nx := fun τ G => D.nx (τ.set i none) G, rt := D.rt, bk := fun τ G => D.bk (τ.set i none) G, ct := fun τ G => D.ct (τ.set i none) G }
/-- what the clauses wish, one behind the other -/
def wAsM (K : PySem.W.Frag) (Wout : WX) (D : Ends) (i m : Nat) : List (Value × Cls) → WX
  | [] => Wout
  | (c, ts) :: r => fun cls d τ G => ∃ b, PySem.W.exmOne K cls c = some b ∧ (b = true → ∀ z, G z = none → τ.length = m → ts z cls d (offEnds D i) (τ.set i (some (.ref z))) G) ∧ (b = false → wAsM K Wout D i m r cls d τ G)
inductive CsOk (X : Cx) (n : Str) : List ExceptHandler → List (Value × Cls) → Prop
  | nil : CsOk X n [] []
  | cons {x : Str} {c : Value} {ts : Cls} {b₁ : Stmt} {rest : List Stmt} {np pp : Pos} {hds : List ExceptHandler} {l : List (Value × Cls)} (nm : Names X x c)
      (su : ∀ (z : Addr) (oz : Obj) (cls : Value) (d : Option Addr) (pn : List (Addr × Obj)), Zc cls d oz → (∃ vs, oz.data = .fields vs) → PSs (X.suite z ((z, oz) :: pn)) (b₁ :: rest) (ts z cls d)) (r : CsOk X n hds l) :
      CsOk X n (.ExceptHandler (some (.Name x np)) (some n) (b₁ :: rest) pp :: hds) ((c, ts) :: l)
section
variable {X : Cx} {n : Str} {i : Nat} {body : List Stmt} {hd₀ : ExceptHandler} {hds : List ExceptHandler} {l : List (Value × Cls)} {pos : Pos} {tb : WX → TS} {Wout : WX}
theorem ps_try_asM (stk : X.stack = X.env :: X.outer) (frm : X.env.frame = some X.env.locals) (nd : X.N.Nodup) (at_i : X.N[i]? = some n) (lcl : X.env.kindOf n = some .local) (tk : Takes X Wout)
    (bd : ∀ (W : WX) (pn : List (Addr × Obj)) (xe : Value → Shared → Prop), Takes (X.tr pn xe) W → PassesOwn (model X.prog X.w) X.A X.env xe → PSs (X.tr pn xe) body (tb W))
    (cl : CsOk X n (hd₀ :: hds) l) : PS X (.Try body (hd₀ :: hds) [] [] pos) (fun D τ G => tb (wAsM X.K Wout D i X.N.length l) D τ G) := by
  refine ⟨fun pin s τ G D I hw => ?_⟩
  have okX := I.ok
  have frs_ : X.A.frames = some (X.env :: X.outer) := by rw [okX.frames, stk]
  have nloc : Loc X.env.scope n := .inl lcl
  refine wpAny_Try_except ?_
  refine wpAny_mono ((bd (wAsM X.K Wout D i X.N.length l) (X.pn ++ pin) (fun e u₁ => wpAny (model X.prog X.w) X.A (noteFrame e X.env) (fun _ u₂ => wpAny (model X.prog X.w) X.A (setFlight e none) (fun _ u₃ =>
    wpAny (model X.prog X.w) X.A (handleBy e X.env (hd₀ :: hds)) (SP X pin D) X.xe u₃) X.xe u₂) X.xe u₁) (fun u v xx => ?_) PassesOwn.looking).run [] s τ G D (I.toTry _) hw) (fun f s1 out => ?_) (fun _ _ z => z)
  · obtain ⟨z, B, sI, pin', τ', G', cls, d, rfl, J', nb, up, sky, na, os, ag, w⟩ := xx
    have J : Inv X pin τ' G' sI := J'.ofTry okX
    have sky2 : Sky B (X.env :: X.outer) z (Zc cls d) X.env.locals v.heap := by rw [← stk]; exact sky
    show wpAny (model X.prog X.w) X.A (noteFrame (.ref z) X.env) _ _ _
    refine Sky.land Zc.steady frs_ frm sky2 fun g3 fl3 up3 => ?_
    have J3 : Inv X pin τ' G' { v with heap := g3 } := J.landed nb fl3.1 (up.trans up3) os ag
    obtain ⟨oz3, _, ez3, hz3, dz3⟩ := fl3.there
    have away : z ∉ frs (X.env :: X.outer) := fun hm => by
      obtain ⟨_, o', e', nf⟩ := fl3.2.2.1.mem hm
      rw [ez3] at e'; cases e'
      exact nf _ dz3
    have nL : z ≠ X.env.locals := fun q => away (List.mem_filterMap.mpr ⟨X.env, List.mem_cons_self, by rw [frm, q]⟩)
    have nF : z ∉ X.fs := fun hm => by
      obtain ⟨e, he, q⟩ := List.mem_filterMap.mp hm
      exact away (List.mem_filterMap.mpr ⟨e, List.mem_cons_of_mem _ he, q⟩)
    have S3 := J3.suite ez3 dz3 na nL nF
    have walk : ∀ {hs' : List ExceptHandler} {l' : List (Value × Cls)}, CsOk X n hs' l' → wAsM X.K Wout D i X.N.length l' cls d τ' G' →
        wpAny (model X.prog X.w) X.A (handleBy (.ref z) X.env hs') (SP X pin D) X.xe { v with heap := g3 } := by
      intro hs' l' hk
      induction hk with
      | nil =>
        intro w
        refine wpAny_handleBy_nil ?_
        obtain ⟨_, _, _, oe, vs, T, oT, t2, he, hz, hd, h1, hr⟩ := id fl3
        unfold PySem.passOn
        refine wpAny_bind (wpAny_field he hd h1 ?_)
        rw [if_neg (show ¬ ((Value.ref T == Value.none) = true) from by simp)]
        have fin : wpAny (model X.prog X.w) X.A (setFlight (.ref z) X.env.frame) (fun _ u4 => wpAny (model X.prog X.w) X.A (throw (.ref z) : Sem Flow) (SP X pin D) X.xe u4) X.xe { v with heap := g3 } := by
          rw [frm]
          refine HandSPX.setFlight_upZ fl3 fun g4 hh4 up4 => wpAny_throw (tk _ _ ?_)
          exact ⟨z, B, sI, pin, τ', G', cls, d, rfl, J, nb, (up.trans up3).trans up4, .inr (.inr (by rw [stk]; exact hh4)), na, os, ag, w⟩
        first
          | exact wpAny_bind (wpAny_pure (wpAny_bind fin))
          | exact wpAny_bind fin
      | @cons x c ts b₁ rest np pp hds2 l2 nm su r ih =>
        intro w
        obtain ⟨b, is, yes, no⟩ := w
        refine wpAny_handleBy_cons (codeAny_handlers_test ?_) (by intro q; cases q)
        have LT : PySem.W.Looks (model X.prog X.w) g3 (typeOf (.ref z)) cls := fun A Q E u k q => wpAny_typeOf_ref (k _ _ ez3) (by rw [hz3.1]; exact q)
        have LM := PySem.W.exm_one (M := model X.prog X.w) (J3.kIn) LT is
        have look : ∀ {Q : Value → Shared → Prop} {E : Value → Shared → Prop}, Q c { v with heap := g3 } → wpAny (model X.prog X.w) (X.A.mark (some (.ref z))) (eval (.Name x np) X.env) Q E { v with heap := g3 } := fun {Q E} q => by
          obtain ⟨gl, db, h1 | ⟨h1, h2, h3⟩⟩ := nm
          · exact ld_glob (X := X.suite z ((z, oz3) :: (X.pn ++ pin))) S3 gl h1 q db
          · exact ld_blt (X := X.suite z ((z, oz3) :: (X.pn ++ pin))) S3 gl h1 h2 q h3 db
        refine look (LM.here ?_)
        cases b with
        | true =>
          refine codeAny_handlers_suite_as ?_
          refine HandSPX.lands_againZ fl3 fun g4 fl4 up4 => ?_
          have J4 : Inv X pin τ' G' { v with heap := g4 } := J.landed nb fl4.1 ((up.trans up3).trans up4) os ag
          obtain ⟨oz4, _, ez4, hz4, dz4⟩ := fl4.there
          have S4 := J4.suite ez4 dz4 na nL nF
          refine store_ok (X := X.suite z ((z, oz4) :: (X.pn ++ pin))) (v := .ref z) S4 nd at_i nloc rfl (fun s5 S5 => ?_) (.inr lcl)
          refine wpAny_mono ((su z oz4 cls d (X.pn ++ pin) hz4 ⟨_, dz4⟩).run [] s5 _ G' _ S5 (yes rfl z na J.len)) (fun f s6 q6 => ?_) (fun _ _ y => False.elim y)
          have gone : ∀ {τ6 : L2.St} {G6 : Hp} {Q : Shared → Prop}, Inv (X.suite z ((z, oz4) :: (X.pn ++ pin))) [] τ6 G6 s6 → (∀ s7, Inv X pin (τ6.set i none) G6 s7 → Q s7) →
              wpAny (model X.prog X.w) X.A (do bindName X.env n .none; unbindBehindTheSuite X.env n pp) (fun _ s7 => Q s7) X.xe s6 := fun {τ6 G6 Q} S6 hq => gone_ok (S6.unsuite okX) nd at_i lcl hq
          rcases f with _ | _ | _ | u
          · obtain ⟨_, _, S6, q⟩ := q6
            exact gone S6 fun s7 J7 => ⟨_, _, J7, q⟩
          · obtain ⟨_, _, S6, q⟩ := q6
            exact gone S6 fun s7 J7 => ⟨_, _, J7, q⟩
          · obtain ⟨_, _, S6, q⟩ := q6
            exact gone S6 fun s7 J7 => ⟨_, _, J7, q⟩
          · obtain ⟨_, _, _, S6, r6, q⟩ := q6
            exact gone S6 fun s7 J7 => ⟨_, _, _, J7, r6, q⟩
        | false =>
          show wpAny _ X.A (handleBy (.ref z) X.env hds2) _ _ _
          exact ih (no rfl)
    exact walk cl w
  · rcases f with _ | _ | _ | u
    · obtain ⟨_, _, J', q⟩ := out
      exact wpAny_execs_nil ⟨_, _, J'.ofTry okX, q⟩
    · obtain ⟨_, _, J', q⟩ := out
      exact ⟨_, _, J'.ofTry okX, q⟩
    · obtain ⟨_, _, J', q⟩ := out
      exact ⟨_, _, J'.ofTry okX, q⟩
    · obtain ⟨_, _, _, J', r, q⟩ := out
      exact ⟨_, _, _, J'.ofTry okX, r, q⟩
end
/-! ### repr of an int or None -/
def reprN : Option Int → Str
  | some k => Str.ofString (toString k)
  | none => Str.ofString "None"
def optI : Option Int → V
  | some k => .int k
  | none => .non
def rReprN : List V → Hp → VK → Prop := fun xs H Q => ∃ o : Option Int, xs = [optI o] ∧ (∀ k, o = some k → k.natAbs.log2 < 1920) ∧ Q (.str (reprN o)) H
theorem cr_reprN {X : Cx} : CallR X (.builtin "repr") rReprN := by
  intro pins s σ H xs us Q I r h
  obtain ⟨o, rfl, hb, q⟩ := h
  obtain ⟨u, rfl, ru⟩ := vals1 r
  cases o with
  | none =>
    cases (show u = Value.none from ru)
    exact P.repr_of_none ⟨.str _, H, I.tok _, ⟨_, rfl⟩, q⟩
  | some k =>
    obtain ⟨t, rfl⟩ := (show ∃ t, u = Value.int k t from ru)
    exact P.repr_of_int (hb k rfl) ⟨.str _, H, I.tok _, ⟨_, rfl⟩, q⟩
end Ty

namespace Xb
open PySem PySem.Spec PyProof.Rows L2
/-- isinstance of the caught error, whose own dict is known -/
structure IsC (K : PySem.W.Frag) (C : Addr) : Prop where
  cl : (PySem.W.clsIn K C).isSome = true
  ga : PySem.W.findIn K (.ref C) "__getattribute__" = some (some (.builtin "BaseException.__getattribute__"))
  gg : PySem.W.findIn K (.ref C) "__getattr__" = some none
  ex : PySem.W.subIn K (.ref C) (.type "BaseException") = some true
  c1 : PySem.W.findIn K (.ref C) "__class__" = some (some (.builtin "object.__class__"))
  c2 : PySem.W.specialIn K (.builtin "object.__class__") "__get__" = some (some (.builtin "getset_descriptor.__get__"))
  c3 : PySem.W.takesIn K (.builtin "object.__class__") = some true
  c4 : PySem.W.mroIn K C (.type "object") = some true
def rIsAt (K : PySem.W.Frag) (a : Addr) (cls : Value) (d : Option Addr) (C : Addr) : List V → Hp → VK → Prop := fun xs H Q => cls = .ref C ∧ ∃ (c : V) (cv : Value) (b : Bool) (dd : Addr) (fs : List (Str × V)), xs = [.ref a, c] ∧ d = some dd ∧ H dd = some (.xd fs) ∧ (∀ u, RelV c u → u = cv) ∧ PySem.W.kitOne K (.ref C) cv = some b ∧ Q (.bl b) H
theorem call_isAt {X : Cx} {a C : Addr} {cls : Value} {d : Option Addr} {oe : Obj} {pn : List (Addr × Obj)} (T : IsC X.K C) (hz : Zc cls d oe) (hf : ∃ vs, oe.data = .fields vs) : CallR (X.suite a ((a, oe) :: pn)) (.builtin "isinstance") (rIsAt X.K a cls d C) := by
  intro pins s σ H xs us Q I r h
  obtain ⟨rfl, c, cv, b, dd, fs, rfl, rfl, ea, hcv, e, q⟩ := h
  match us, r with
  | [_, _], .cons r1 (.cons r2 .nil) =>
    cases r1
    have ec := hcv _ r2
    subst ec
    have pin := (I.pin (a, oe) (List.mem_append.mpr (.inl List.mem_cons_self))).1
    obtain ⟨vs, hv⟩ := hf
    obtain ⟨mA, hns, _⟩ := (I.hok dd _ ea : ObjOk X.prog X.w H s.heap dd (.xd fs))
    obtain ⟨od, ho, _⟩ := lookIn_ns hns
    have J : PySem.W.InstAt s.heap a oe C (some od) := ⟨pin, hz.1, by unfold PySem.W.notCls; rw [hv] <;> rfl, by rw [hz.2]; exact ho⟩
    exact PySem.W.kia_one (PySem.W.kitx_exc T.cl T.ga T.gg T.ex T.c1 T.c2 T.c3 T.c4) I.kIn J e (by intro z; cases z) fun tk => ⟨.bl b, H, I.kept (t' := tk) fun _ _ z => z, rfl, q⟩
end Xb

namespace R0
open PySem PySem.Spec PyProof.Rows L2 Hb St Sq Ow En Zp RZ Rd Xb Da Wa LamX Ty
/-! ### _law_wrong -/
abbrev s__law_wrong : Stmt := top 38
theorem sc__law_wrong : FnScope ["work", "e"] ["work"] (defScope s__law_wrong) := ⟨rfl, rfl, rfl, by decide +kernel, rfl, by decide +kernel, by decide +kernel⟩
def roomsS : Str := Str.ofString "rooms"
def textS : Str := Str.ofString "text"
def nameS : Str := Str.ofString "name"
/-- what a told error leaves -/
def Told3 (K : PySem.W.Frag) (C0 C1 C2 : Addr) (Q : VK) : XK := fun cls d H => ∃ dd : Addr, d = some dd ∧
  ((cls = .ref C0 ∧ ∃ k : Int, H dd = some (errH k) ∧ ∀ u, H u = none → Q (.ref u) (upd H u (.tup [.str roomsS, .int k]))) ∨
   (cls = .ref C1 ∧ ∃ k : Int, H dd = some (errH k) ∧ ∀ u, H u = none → Q (.ref u) (upd H u (.tup [.str textS, .int k]))) ∨
   (cls = .ref C2 ∧ ∃ v : V, H dd = some (.xd [(("name" : Str), v)]) ∧ Gu.rRepr K [v] H fun x H' => ∀ u, H' u = none → Q (.ref u) (upd H' u (.tup [.str nameS, x]))))
def TWrong (K : PySem.W.Frag) (C0 C1 C2 : Addr) : (XK → Hp → VK → Prop) → Hp → VK → Prop := fun tl H Q => tl (Told3 K C0 C1 C2 Q) H fun _ H1 => Q .non H1
structure WrC (K : PySem.W.Frag) (mg : Str → Option Value) (C0 C1 C2 B : Addr) : Prop where
  t0 : ∃ f, Xb.ErrC K mg "InvalidRooms" C0 f
  t1 : ∃ f, Xb.ErrC K mg "InvalidText" C1 f
  t2 : ∃ f, Xk.ErrC K mg "NoName" C2 f
  i0 : IsC K C0
  i1 : IsC K C1
  i2 : IsC K C2
  gB : mg "BellError" = some (.ref B)
  nI : mg "isinstance" = none
  nR : mg "repr" = none
  nK : mg "KeyError" = none
  k0 : PySem.W.kitOne K (.ref C0) (.ref B) = some true
  k1 : PySem.W.kitOne K (.ref C1) (.ref B) = some true
  k2 : PySem.W.kitOne K (.ref C2) (.ref B) = some false
  kk : PySem.W.kitOne K (.ref C2) (.type "KeyError") = some true
  e10 : PySem.W.exmOne K (.ref C1) (.ref C0) = some false
  e20 : PySem.W.exmOne K (.ref C2) (.ref C0) = some false
  e21 : PySem.W.exmOne K (.ref C2) (.ref C1) = some false
theorem wrong_gives {X : Cx} {q : Str} {g C0 C1 C2 B : Addr} {cdg : Value} (W3 : WrC X.K X.mg C0 C1 C2 B) (fr : Gu.Free X.A) (hu : X.A.units + 100 < cLine) :
    GivesTo X ["work", "e"] "_law_wrong" (defScope s__law_wrong) g cdg (defBody s__law_wrong) "work" q (TWrong X.K C0 C1 C2) := by
  intro f c' s H Q tl act hc h
  obtain ⟨f0, T0⟩ := W3.t0
  obtain ⟨f1, T1⟩ := W3.t1
  obtain ⟨f2, T2⟩ := W3.t2
  have n_isinstance := W3.nI
  have n_repr := W3.nR
  have n_KeyError := W3.nK
  have rp : ∀ (a : Addr) (oe : Obj) (pn : List (Addr × Obj)), CallR ((cxOf C8.CX0 X.prog X.w X.K X.mg X.base ["work", "e"] "_law_wrong" (defScope s__law_wrong) g cdg X.A X.stack s H C8.E0).nox.suite a ((a, oe) :: pn)) (.builtin "repr") (Gu.rRepr X.K) := fun a oe pn => Gu.cr_repr fr (Nat.lt_of_le_of_lt (by show X.A.units + 3 + 64 ≤ X.A.units + 100; omega) hu)
  refine ⟨_, pss_cons (ps_try_asM (X := (cxOf C8.CX0 X.prog X.w X.K X.mg X.base ["work", "e"] "_law_wrong" (defScope s__law_wrong) g cdg X.A X.stack s H C8.E0).nox) (i := 1) (n := "e")
      (l := [(.ref C0, _), (.ref C1, _), (.ref C2, _)])
      (tb := fun W D σ H => ∃ Ech : XK, (∀ cls d σ' H', Ech cls d H' → W cls d σ' H') ∧ σ[0]? = some (some (.ref f)) ∧ H c' = some (CodeO c' q) ∧ tl Ech H fun _ H1 => D.nx σ H1)
      rfl rfl sc__law_wrong.nd rfl rfl LamX.takes0 (fun W pn xe tk _ => ?_)
      (.cons ⟨rfl, by decide, .inl T0.gC⟩ (fun a oe cls d pn hz hf => pss_one (ps_ret (pe_ifExp (pt_val (pe_callB (call_isAt W3.i0 hz hf) (by rfl) n_isinstance (by decide +kernel) (pa_cons (pv 1) (pa_cons (pe_glob (v := .ref B) (by rfl) W3.gB rfl) pa_nil)))) (pe_tup (pa_cons pe_str (pa_cons (pe_xf T0.xf T0.noN hz hf (pv 1)) pa_nil))) pe_non)))
        (.cons ⟨rfl, by decide, .inl T1.gC⟩ (fun a oe cls d pn hz hf => pss_one (ps_ret (pe_ifExp (pt_val (pe_callB (call_isAt W3.i1 hz hf) (by rfl) n_isinstance (by decide +kernel) (pa_cons (pv 1) (pa_cons (pe_glob (v := .ref B) (by rfl) W3.gB rfl) pa_nil)))) (pe_tup (pa_cons pe_str (pa_cons (pe_xf T1.xf T1.noN hz hf (pv 1)) pa_nil))) pe_non)))
          (.cons ⟨rfl, by decide, .inl T2.gC⟩ (fun a oe cls d pn hz hf => pss_one (ps_ret (pe_ifExp (PW.pt (pw_and (pt_val (pe_callB (call_isAt W3.i2 hz hf) (by rfl) n_isinstance (by decide +kernel) (pa_cons (pv 1) (pa_cons (pe_bltn (v := .ty "KeyError") (by rfl) n_KeyError (by decide +kernel) rfl) pa_nil)))) (pw_and1 (pt_not (pt_val (pe_callB (call_isAt W3.i2 hz hf) (by rfl) n_isinstance (by decide +kernel) (pa_cons (pv 1) (pa_cons (pe_glob (v := .ref B) (by rfl) W3.gB rfl) pa_nil)))))))) (pe_tup (pa_cons pe_str (pa_cons (pe_callB (id := "repr") (r := Gu.rRepr X.K) (rp a oe pn) (by rfl) n_repr (by decide +kernel) (pa_cons (pe_xf T2.xf T2.noN hz hf (pv 1)) pa_nil)) pa_nil))) pe_non))) .nil)))) (pss_one (ps_ret pe_non)), ?_⟩
  · refine ⟨fun pins s' σ H' D I h' => ?_⟩
    obtain ⟨Ech, hW, h1, h2, h3⟩ := h'
    exact (pss_one (ps_expr (act W pn xe Ech _ _ tk hW))).run pins s' σ H' D I ⟨h1, h2, h3⟩
  · refine ⟨Told3 X.K C0 C1 C2 Q, fun cls d σ' H' he => ?_, rfl, hc, h⟩
    obtain ⟨dd, rfl, ⟨rfl, k, ed, hq⟩ | ⟨rfl, k, ed, hq⟩ | ⟨rfl, v, ed, hq⟩⟩ := he
    · refine ⟨true, T0.te, fun _ z hz ln => ?_, fun y => (by cases y)⟩
      match σ', ln with
      | [o0, o1], _ =>
        refine ⟨_, rfl, rfl, .ref B, .ref B, true, dd, _, rfl, rfl, ed, fun _ r => r, W3.k0, true, rfl, iteT ⟨_, rfl, rfl, rfl, dd, _, .int k, rfl, ed, rfl, by show 2 ≤ sizeLine; decide, fun u hu => hq u hu⟩⟩
    · refine ⟨false, W3.e10, fun y => (by cases y), fun _ => ⟨true, T1.te, fun _ z hz ln => ?_, fun y => (by cases y)⟩⟩
      match σ', ln with
      | [o0, o1], _ =>
        refine ⟨_, rfl, rfl, .ref B, .ref B, true, dd, _, rfl, rfl, ed, fun _ r => r, W3.k1, true, rfl, iteT ⟨_, rfl, rfl, rfl, dd, _, .int k, rfl, ed, rfl, by show 2 ≤ sizeLine; decide, fun u hu => hq u hu⟩⟩
    · refine ⟨false, W3.e20, fun y => (by cases y), fun _ => ⟨false, W3.e21, fun y => (by cases y), fun _ => ⟨true, T2.te, fun _ z hz ln => ?_, fun y => (by cases y)⟩⟩⟩
      match σ', ln with
      | [o0, o1], _ =>
        refine ⟨_, rfl, rfl, .ty "KeyError", .type "KeyError", true, dd, _, rfl, rfl, ed, fun _ r => r, W3.kk, true, rfl, iteT ⟨_, rfl, rfl, .ref B, .ref B, false, dd, _, rfl, rfl, ed, fun _ r => r, W3.k2, false, rfl, iteT ⟨_, rfl, rfl, rfl, dd, _, v, rfl, ed, rfl, ?_⟩⟩⟩
        obtain ⟨v', d', e1, e2, e3, e4, e5, e6, e7⟩ := hq
        exact ⟨v', d', e1, e2, e3, e4, e5, e6, by show 2 ≤ sizeLine; decide, fun u hu => e7 u hu⟩
end R0

/-! static methods called off their class -/
namespace Sm
open PySem PySem.Spec PyProof.Rows L2 Hb
/-- C.m is a static method: its record at p, its def at g -/
structure SMet (K : PySem.W.Frag) (C : Addr) (mc : Value) (m : Str) (p g : Addr) : Prop where
  rd : PySem.W.readsIn K C mc = true
  ga : PySem.W.specialIn K (.ref C) "__getattribute__" = some (some (.builtin "type.__getattribute__"))
  at_ : PySem.W.findCls K (.ref C) mc m = some (.get (.builtin "staticmethod.__get__") (.ref p) .none (.ref C))
  rc : ∃ rest, PySem.W.recIn K p "staticmethod" = some (.ref g :: rest)
  kp : PySem.W.keepIn K (.ref g) = true
section
variable {X : Cx} {pins : List (Addr × Obj)} {σ : L2.St} {H : Hp} {s : Shared} {C p g : Addr} {mc : Value} {m : Str} {A : Around} {E : Value → Shared → Prop}
theorem getmethsm_ok {pl : Sem Bool} {Q : Value × List Value → Shared → Prop} (I : Inv X pins σ H s) (k : SMet X.K C mc m p g) (h : ∀ s', Inv X pins σ H s' → Q (.ref g, []) s') : wpAny (model X.prog X.w) A (getMethod (.ref C) m pl) Q E s := by
  obtain ⟨rest, hp⟩ := k.rc
  refine PySem.W.method_cls I.kIn k.ga (PySem.W.cls_bind I.kIn k.rd k.at_ ?_)
  exact wpAny_call (PySem.W.sm_get (s := { s with toks := s.toks + 1 }) I.kIn hp (PySem.W.handed_on rfl (h _ (I.tok _))))
end
section
variable {X : Cx} {lv : Nat} {C p g : Addr} {mc : Value} {sp : Sp} {o e : Expr} {es : List Expr} {m : Str} {pos apos : Pos} {ta : TE} {t : TA} {pl : Sem Bool} {fd : FuncData} {ps : List Str}
def tSMeth (C : Addr) (sp : Sp) (E : L2.St → XK) (ta : TE) (t : TA) : TE := fun σ H Q => ta σ H fun x H1 => x = .ref C ∧ t σ H1 fun vs H2 => sp vs H2 Q (E σ)
theorem pe_smeth {E : L2.St → XK} (k : SMet X.K C mc m p g) (F : FnOk X.prog X.w X.K X.mg X.base (L2.CX X.prog X.w) lv g fd ps sp) (hb : Binds X.K fd ps []) (hr : Room lv X.A) (hx : ∀ σ, PassesAt (L2.CX X.prog X.w) X σ (E σ)) (he : PE X o ta) (ha : PA X (e :: es) t)
    (hst : starEach (e :: es) X.env = (false, eval e X.env) :: starEach es X.env := by rfl) (hpl : (backTo pos (starEach es X.env)).any (·.1) = false := by rfl)
    (ht : eval (.Call (.Attribute o m apos) (e :: es) [] pos) X.env = (do
      let ov ← eval o X.env
      standAt apos.atName
      let (f, first) ← holding [ov] (getMethod ov m pl)
      callWith pos f first (backTo pos (starEach (e :: es) X.env)) (backToKw pos (keywordEach [] X.env))) := by rfl) :
    PE X (.Call (.Attribute o m apos) (e :: es) [] pos) (tSMeth C sp E ta t) := by
  refine ⟨fun pins s σ H Q I h => ?_⟩
  refine PySem.W.methodCall_KW (pl := pl) (thn (he.run pins s σ H _ I h) fun u s1 ⟨x, H1, I1, rx, ex, q⟩ => ?_) ht
  subst ex
  obtain rfl : u = Value.ref C := rx
  refine getmethsm_ok I1 k fun s2 I2 => ?_
  refine PySem.W.callWith_K (h₀ := X.base) I2.ok.mod.kin k.kp (thn (ha.run pos pins s2 σ H1 _ I2 q) fun us s3 ⟨vs, H2, I3, rv, q2⟩ => ⟨I3.kIn, ?_⟩) hst hpl
  exact run_fnS F hr hb (hx σ) I3 rv q2
/-- C.m(k = v, ..) -/
def tSMethK (C : Addr) (n : Nat) (sp : Sp) (gV : List V → List V → List V) (E : XK) (ta : TE) (tk : TA) : TE := fun σ H Q => ta σ H fun x H1 => x = .ref C ∧ tk σ H1 fun zs H2 => zs.length = n ∧ sp (gV [] zs) H2 Q E
theorem pe_smethK {ks : List Str} {gV : List V → List V → List V} {gv : List Value → List Value → List Value} {kws : List Keyword} {tk : TA} {E : XK} (k : SMet X.K C mc m p g) (F : FnOk X.prog X.w X.K X.mg X.base (L2.CX X.prog X.w) lv g fd ps sp) (hb : KBn X.K fd ps 0 ks gv gV) (hr : Room lv X.A) (hx : Passes (L2.CX X.prog X.w) X E) (he : PE X o ta) (hkw : PK X kws tk)
    (hall : (backToKw pos (keywordEach kws X.env)).all (·.1.isSome) = true := by rfl) (hks : (backToKw pos (keywordEach kws X.env)).filterMap (·.1) = ks := by rfl)
    (hpl : ((backTo pos (starEach [] X.env)).any (·.1) || (backToKw pos (keywordEach kws X.env)).any (·.1.isNone)) = false := by rfl)
    (ht : eval (.Call (.Attribute o m apos) [] kws pos) X.env = (do
      let v ← eval o X.env
      standAt apos.atName
      let (f, first) ← holding [v] (getMethod v m pl)
      callWith pos f first (backTo pos (starEach [] X.env)) (backToKw pos (keywordEach kws X.env))) := by rfl) : PE X (.Call (.Attribute o m apos) [] kws pos) (tSMethK C ks.length sp gV E ta tk) := by
  refine ⟨fun pins s σ H Q I h => ?_⟩
  refine PySem.W.methodCall_KW (pl := pl) (thn (he.run pins s σ H _ I h) fun u s1 ⟨x, H1, I1, rx, ex, q⟩ => ?_) ht
  subst ex; obtain rfl : u = Value.ref C := rx
  refine getmethsm_ok I1 k fun s2 I2 => ?_
  refine PySem.W.callWith_KW0 (first := []) (h₀ := X.base) I2.ok.mod.kin k.kp hall (thn (hkw.run pos pins s2 σ H1 _ I2 q) fun ws s3 ⟨zs, H2, I3, rz, l2, q2⟩ => ⟨I3.kIn, ?_⟩) hpl
  rw [hks]
  exact run_fnN (us := []) (vs := []) F hr hb hx I3 .nil rz rfl l2 q2
end
end Sm

namespace R0
open PySem PySem.Spec PyProof.Rows L2 Hb St Sq Ow En Zp RZ Rd Xb Da Wa LamX Lc Ty Gu Sm
theorem un_le {k : Nat} {A : Around} (r : Room k A) : A.units + 100 < cLine := by have := r.un; omega
abbrev s__law_kept : Stmt := top 40
theorem sc__law_kept : FnScope ["made", "rooms", "tale", "at", "lot", "spots", "bell", "name", "step", "turn", "spot"] ["made", "rooms"] (defScope s__law_kept) := ⟨rfl, rfl, rfl, by decide +kernel, rfl, by decide +kernel, by decide +kernel⟩
abbrev s__law_refused : Stmt := top 41
theorem sc__law_refused : FnScope ["deal", "rooms", "gongs", "calls", "name", "some", "bad", "joins", "made", "one"] ["deal", "rooms", "gongs", "calls"] (defScope s__law_refused) := ⟨rfl, rfl, rfl, by decide +kernel, rfl, by decide +kernel, by decide +kernel⟩
abbrev s__law_read : Stmt := top 42
theorem sc__law_read : FnScope ["deal", "rooms", "gongs", "calls", "at", "some", "bent", "lines"] ["deal", "rooms", "gongs", "calls"] (defScope s__law_read) := ⟨rfl, rfl, rfl, by decide +kernel, rfl, by decide +kernel, by decide +kernel⟩
structure SmRd (P : Program) (w : World) (K : PySem.W.Frag) (mg : Str → Option Value) (base : Heap) (C CR CT : Addr) : Prop where
  ex : ∃ (mc : Value) (p g : Addr) (fd : FuncData) (gv : List Value → List Value → List Value), SMet K C mc "read" p g ∧ FnOk P w K mg base (L2.CX P w) 7 g fd ["text"] (spRead K C CR CT) ∧ Binds K fd ["text"] [] ∧ KBn K fd ["text"] 0 ["text"] gv (fun vs zs => vs ++ zs)
section
variable {X : Cx} {C CR CT : Addr} {e o : Expr} {es : List Expr} {p pos apos : Pos} {t tk : TA} {ta : TE} {E : XK} {kws : List Keyword}
theorem pe_read {pl : Sem Bool} (S : SmRd X.prog X.w X.K X.mg X.base C CR CT) (hr : Room 7 X.A) (hx : Passes (L2.CX X.prog X.w) X E) (he : PE X o ta) (ha : PA X (e :: es) t)
    (hst : starEach (e :: es) X.env = (false, eval e X.env) :: starEach es X.env := by rfl) (hpl : (backTo pos (starEach es X.env)).any (·.1) = false := by rfl)
    (ht : eval (.Call (.Attribute o "read" apos) (e :: es) [] pos) X.env = (do
      let ov ← eval o X.env
      standAt apos.atName
      let (f, first) ← holding [ov] (getMethod ov "read" pl)
      callWith pos f first (backTo pos (starEach (e :: es) X.env)) (backToKw pos (keywordEach [] X.env))) := by rfl) :
    PE X (.Call (.Attribute o "read" apos) (e :: es) [] pos) (tSMeth C (spRead X.K C CR CT) (fun _ => E) ta t) := by
  obtain ⟨mc, p, g, fd, gv, k, F, b, kb⟩ := S.ex
  exact pe_smeth k F b hr (fun σ pins H s => hx pins σ H s) he ha hst hpl ht
theorem pe_readK {pl : Sem Bool} (S : SmRd X.prog X.w X.K X.mg X.base C CR CT) (hr : Room 7 X.A) (hx : Passes (L2.CX X.prog X.w) X E) (he : PE X o ta) (hkw : PK X kws tk)
    (hall : (backToKw pos (keywordEach kws X.env)).all (·.1.isSome) = true := by rfl) (hks : (backToKw pos (keywordEach kws X.env)).filterMap (·.1) = ([("text" : Str)] : List Str) := by rfl)
    (hpl : ((backTo pos (starEach [] X.env)).any (·.1) || (backToKw pos (keywordEach kws X.env)).any (·.1.isNone)) = false := by rfl)
    (ht : eval (.Call (.Attribute o "read" apos) [] kws pos) X.env = (do
      let v ← eval o X.env
      standAt apos.atName
      let (f, first) ← holding [v] (getMethod v "read" pl)
      callWith pos f first (backTo pos (starEach [] X.env)) (backToKw pos (keywordEach kws X.env))) := by rfl) : PE X (.Call (.Attribute o "read" apos) [] kws pos) (tSMethK C 1 (spRead X.K C CR CT) (fun vs zs => vs ++ zs) E ta tk) := by
  obtain ⟨mc, p, g, fd, gv, k, F, b, kb⟩ := S.ex
  exact pe_smethK k F kb hr hx he hkw hall hks hpl ht
end
/-- by keywords turn, bell, name -/
def ro3 : List V → List V → List V
  | vs, [a, b, c] => vs ++ [c, b, a]
  | vs, zs => vs ++ zs
def ro2 : List V → List V → List V
  | vs, [a, b] => vs ++ [b, a]
  | vs, zs => vs ++ zs
/-- what the law calls -/
structure LawC (P : Program) (w : World) (K : PySem.W.Frag) (mg : Str → Option Value) (base : Heap) (C CR CT CN B g eg ec : Addr) : Prop where
  wr : ∃ fdg, Fun K "_law_wrong" "_law_wrong" s__law_wrong g fdg ∧ Binds K fdg ["work"] []
  mwr : mg "_law_wrong" = some (.ref g)
  W3 : WrC K mg CR CT CN B
  TC : RmT K C
  mkR : MkR P w K mg base C CR eg ec
  rd : SmRd P w K mg base C CR CT
  many : ChX P w K mg base C "many_lots" ["self", "name"] [] 2 (spManyL K C CN)
  manyK : ChKX P w K mg base C "many_lots" ["self", "name"] ["name"] (fun vs zs => vs ++ zs) 2 (spManyL K C CN)
  lot : ChX P w K mg base C "lot_of" ["self", "step"] [] 4 (spLotOf K C CN)
  lotK : ChKX P w K mg base C "lot_of" ["self", "step"] ["step"] (fun vs zs => vs ++ zs) 4 (spLotOf K C CN)
  stp : ChX P w K mg base C "step_of" ["self", "name", "bell", "turn"] [] 4 (spStepOf K C CN)
  stpK : ChKX P w K mg base C "step_of" ["self", "name", "bell", "turn"] ["turn", "bell", "name"] ro3 4 (spStepOf K C CN)
  wg : ChX P w K mg base C "with_gong" ["self", "one", "other"] [] 7 (spWithG K C CR)
  wgK : ChKX P w K mg base C "with_gong" ["self", "one", "other"] ["one", "other"] (fun vs zs => vs ++ zs) 7 (spWithG K C CR)
  wc : ChX P w K mg base C "with_call" ["self", "one", "other"] [] 7 (spWithC K C CR)
  wcK : ChKX P w K mg base C "with_call" ["self", "one", "other"] ["other", "one"] ro2 7 (spWithC K C CR)
  n_len : mg "len" = none
  n_range : mg "range" = none
  n_repr : mg "repr" = none
  n_enumerate : mg "enumerate" = none
theorem goC {P : Program} {w : World} {K : PySem.W.Frag} {mg : Str → Option Value} {base : Heap} {x qual : Str} {st : Stmt} {f c : Addr} {oc : Value} {od an : Option Addr} {osl : Array (Option Value)} {kV doc pm ct : Value} {N ps : List Str} {k : Nat} {sp : Sp}
    (lk : K.lookup f = some ⟨oc, od, .func (PySem.W.fnOf x qual (defArgs st) (defBody st) (defScope st) .none kV doc pm an (.ref c) ct), osl⟩) (cd : PySem.W.codeIn K (.ref c) qual = true) (S : FnScope N ps (defScope st)) (len : ∀ vs H Q E, sp vs H Q E → vs.length = ps.length)
    (hbody : ∀ (A : Around) (outer : List Env) (s : Shared) (H : Hp) (vs : List V) (Q : VK) (E : XK), Room k (A.deeper (envOfC qual (defScope st) s.heap.objs.size f (.ref c))) → Gu.Free A → sp vs H Q E →
      ∃ t, PSs (cxOf CX0 P w K mg base N qual (defScope st) f (.ref c) A outer s H E).nox (defBody st) t ∧ t { nx := fun _ H' => Q .non H', rt := Q } (start N vs) H) :
    FnG P w K mg base CX0 (k + 1) f (PySem.W.fnOf x qual (defArgs st) (defBody st) (defScope st) .none kV doc pm an (.ref c) ct) ps sp := by
  refine Gu.mk_go lk cd S len fun A outer s H vs Q E hr fr hsp => ?_
  obtain ⟨t, h, q⟩ := hbody A outer s H vs Q E hr fr hsp
  exact ⟨t, h.nox, q⟩
abbrev qKept : Str := (envOfC "_law_kept" (defScope s__law_kept) 0 0 .none).qual ++ "<lambda>"
abbrev qRefu : Str := (envOfC "_law_refused" (defScope s__law_refused) 0 0 .none).qual ++ "<lambda>"
abbrev qRead : Str := (envOfC "_law_read" (defScope s__law_read) 0 0 .none).qual ++ "<lambda>"
end R0

namespace R0
open PySem PySem.Spec PyProof.Rows L2 Hb St Sq Ow En Zp RZ Rd Xb Da Wa LamX Lc Ty Gu Sm
/-! ### texts of names -/
def showOk (d : PyData) : Bool := PyData.showable d && (!PyData.hasDict d && (decide (PyData.depth d < 40) && (decide ((PyData.shown d).length ≤ 1000) && (TL.tl (PyData.shown d)).all fun c => decide (c < 128))))
def bells4 : List Str := [Str.ofString "ding", Str.ofString "dong", Str.ofString "tick", Str.ofString "none"]
def turns6 : List PyData := [.int 0, .int 1, .int 2, .int 3, .int 4, .none]
def turnsD : List PyData := nms7.flatMap fun n => bells4.flatMap fun b => turns6.map fun t => .tuple [.str n, .str b, t]
def stepsD : List PyData := (nms7.flatMap fun n => [.tuple [.str n, .int 0], .tuple [.str n, .int 1], .tuple [.str n, .int 2], .tuple [.str n, .int 3], .tuple [.str n, .int 4], .tuple [.str n, .bool true], .str n, .tuple [.str n]]) ++ [.none, .tuple [.str (Str.ofString "none"), .int 1], .str (Str.ofString "none")]
theorem show_turns : ∀ d ∈ turnsD, showOk d = true := by decide +kernel
theorem show_steps : ∀ d ∈ stepsD, showOk d = true := by decide +kernel

theorem ExtN.same {H H' : Hp} (s : Same H H') : ExtN H H' := fun b o e _ => s b o e
theorem sqlExt {K : PySem.W.Frag} {H H' : Hp} {a : Addr} {xs : List V} (h : SqL K H a xs) (x : ExtN H H') : SqL K H' a xs := by
  rcases h with (h | ⟨o, h⟩) | h
  · exact .inl (.inl (x _ _ h fun ps z => by cases z))
  · exact .inl (.inr ⟨o, x _ _ h fun ps z => by cases z⟩)
  · exact .inr h
theorem sqtExt {K : PySem.W.Frag} {H H' : Hp} {a : Addr} {xs : List V} (h : SqT K H a xs) (x : ExtN H H') : SqT K H' a xs := by
  rcases h with (h | ⟨o, h⟩) | h
  · exact .inl (.inl (x _ _ h fun ps z => by cases z))
  · exact .inl (.inr ⟨o, x _ _ h fun ps z => by cases z⟩)
  · exact .inr h
mutual
theorem dp_ext {K : PySem.W.Frag} {H H' : Hp} (s : ExtN H H') : ∀ {d : PyData} {v : V}, Dp K H v d → Dp K H' v d
  | _, _, .non => .non
  | _, _, .bl b => .bl b
  | _, _, .int i => .int i
  | _, _, .str x => .str x
  | _, _, .lst h a => .lst (sqlExt h s) (dpa_ext s a)
  | _, _, .tup h a => .tup (sqtExt h s) (dpa_ext s a)
theorem dpa_ext {K : PySem.W.Frag} {H H' : Hp} (s : ExtN H H') : ∀ {ds : List PyData} {xs : List V}, DpAll K H xs ds → DpAll K H' xs ds
  | _, _, .nil => .nil
  | _, _, .cons h t => .cons (dp_ext s h) (dpa_ext s t)
end
theorem notbl {xs : List V} : ∀ ps, HO.tup xs ≠ .tbl ps := fun ps z => by cases z
theorem notbl_l {xs : List V} : ∀ ps, HO.lst xs ≠ .tbl ps := fun ps z => by cases z
theorem RmAt.ext {K : PySem.W.Frag} {C : Addr} {H H' : Hp} {m : Addr} {dr dg dc : List PyData} (h : RmAt K C H m dr dg dc) (x : ExtN H H') : RmAt K C H' m dr dg dc :=
  let ⟨dx, a, b, c, h0, h1, h2, h3⟩ := h; ⟨dx, a, b, c, x _ _ h0 fun ps z => (by cases z), dp_ext x h1, dp_ext x h2, dp_ext x h3⟩
theorem ListAt.ext {α : Type} {K : PySem.W.Frag} {H H' : Hp} {q : Addr} {f : α → PyData} {l : List α} (h : ListAt K H q f l) (x : ExtN H H') : ListAt K H' q f l := let ⟨xs, e, a⟩ := h; ⟨xs, x _ _ e notbl_l, a.imp fun _ _ d => dp_ext x d⟩
theorem low_lit {x : Str} (h : ((TL.tl x).all fun c => decide (c < 128)) = true) : ∀ c ∈ TL.tl x, c < 128 := fun c hc => of_decide_eq_true (List.all_eq_true.mp h c hc)
theorem showOk_all {d : PyData} (h : showOk d = true) : PyData.showable d = true ∧ PyData.hasDict d = false ∧ PyData.depth d < 40 ∧ (PyData.shown d).length ≤ 1000 ∧ ∀ c ∈ TL.tl (PyData.shown d), c < 128 := by
  unfold showOk at h
  simp only [Bool.and_eq_true, Bool.not_eq_true', decide_eq_true_eq] at h
  exact ⟨h.1, h.2.1, h.2.2.1, h.2.2.2.1, low_lit h.2.2.2.2⟩
section
variable {K : PySem.W.Frag} {H : Hp} {Q : VK}
theorem rd_show {v : V} {d : PyData} (dv : Dp K H v d) (s : showOk d = true) (q : Q (.str (PyData.shown d)) H) : Gu.rRepr K [v] H Q :=
  let ⟨a, b, c, e, _⟩ := showOk_all s
  ⟨v, d, rfl, dv, a, b, c, Nat.le_trans e (by rw [sizeLine_eq]; decide), q⟩
theorem sh_ss {k s : Str} (hk : ∀ c ∈ TL.tl k, c < 128) (hs : ∀ c ∈ TL.tl s, c < 128) : SeqAt.shaped (.tuple [.str k, .str s]) = true := (sh_two (n := 0) (sh_low hk) (sh_low hs)).ok (by decide)
theorem sh_si {k : Str} {i : Int} (hk : ∀ c ∈ TL.tl k, c < 128) : SeqAt.shaped (.tuple [.str k, .int i]) = true := (sh_two (n := 0) (sh_low hk) (sh_int 0 i)).ok (by decide)
theorem dp_ss {u : Addr} {k s : Str} (h : H u = some (.tup [.str k, .str s])) : Dp K H (.ref u) (.tuple [.str k, .str s]) := .tup (SqT.of h) (.cons (.str _) (.cons (.str _) .nil))
theorem dp_si {u : Addr} {k : Str} {i : Int} (h : H u = some (.tup [.str k, .int i])) : Dp K H (.ref u) (.tuple [.str k, .int i]) := .tup (SqT.of h) (.cons (.str _) (.cons (.int _) .nil))
theorem eqv_ss (k s : Str) : PyData.eqv (.tuple [.str k, .str s]) (.tuple [.str k, .str s]) = true := by
  rw [eqv_two (eqv_str k k) (eqv_str s s)]; simp
theorem eqv_si (k : Str) (i : Int) : PyData.eqv (.tuple [.str k, .int i]) (.tuple [.str k, .int i]) = true := by
  rw [eqv_two (eqv_str k k) (eqv_int i i)]; simp
theorem low_name : ∀ c ∈ TL.tl nameS, c < 128 := low_lit (by decide +kernel)
theorem low_rooms : ∀ c ∈ TL.tl roomsS, c < 128 := low_lit (by decide +kernel)
theorem low_text : ∀ c ∈ TL.tl textS, c < 128 := low_lit (by decide +kernel)
theorem rne_told {u1 u2 : Addr} {d : PyData} (s : showOk d = true) (h1 : H u1 = some (.tup [.str nameS, .str (PyData.shown d)])) (h2 : H u2 = some (.tup [.str nameS, .str (PyData.shown d)])) (q : Q (.bl false) H) : rNeD K (.ref u1) (.ref u2) H Q :=
  ⟨_, _, dp_ss h1, dp_ss h2, sh_ss low_name (showOk_all s).2.2.2.2, sh_ss low_name (showOk_all s).2.2.2.2, by rw [eqv_ss]; exact q⟩
theorem rne_si {u1 u2 : Addr} {k : Str} {i : Int} (lk : ∀ c ∈ TL.tl k, c < 128) (h1 : H u1 = some (.tup [.str k, .int i])) (h2 : H u2 = some (.tup [.str k, .int i])) (q : Q (.bl false) H) : rNeD K (.ref u1) (.ref u2) H Q :=
  ⟨_, _, dp_si h1, dp_si h2, sh_si lk, sh_si lk, by rw [eqv_si]; exact q⟩
theorem req_told {u1 u2 : Addr} {d : PyData} (s : showOk d = true) (h1 : H u1 = some (.tup [.str nameS, .str (PyData.shown d)])) (h2 : H u2 = some (.tup [.str nameS, .str (PyData.shown d)])) (q : Q (.bl true) H) : rEqD K (.ref u1) (.ref u2) H Q :=
  ⟨_, _, dp_ss h1, dp_ss h2, sh_ss low_name (showOk_all s).2.2.2.2, sh_ss low_name (showOk_all s).2.2.2.2, by rw [eqv_ss]; exact q⟩
theorem req_si {u1 u2 : Addr} {k : Str} {i : Int} (lk : ∀ c ∈ TL.tl k, c < 128) (h1 : H u1 = some (.tup [.str k, .int i])) (h2 : H u2 = some (.tup [.str k, .int i])) (q : Q (.bl true) H) : rEqD K (.ref u1) (.ref u2) H Q :=
  ⟨_, _, dp_si h1, dp_si h2, sh_si lk, sh_si lk, by rw [eqv_si]; exact q⟩
end
theorem lc_en {J : It} {a : Addr} {S : Hp → Prop} {xs : List V} (W : Sq.En J a S xs) {g : TG} {tt : TT} {te : TE} {vs : List Nat} {σ : L2.St} {H1 : Hp} {D : Addr} {Qd : Hp → Prop} (M : Nat → Hp → Prop)
    (h0 : M 0 (upd H1 D (.lst []))) (stand : ∀ i H, M i H → S H)
    (hs : ∀ i x T H, xs[i]? = some x → M i H → H T = none → g (.ref T) (wipe σ vs) (upd H T (.tup [.int (i : Nat), x])) fun σ2 H2 => wipe σ2 vs = wipe σ vs ∧ tt σ2 H2 fun b H3 =>
      if b = true then te σ2 H3 fun y H4 => ∃ acc, H4 D = some (.lst acc) ∧ acc.length < sizeLine ∧ M (i + 1) (upd H4 D (.lst (acc ++ [y]))) else M (i + 1) H3)
    (hd : ∀ H, M xs.length H → Qd H) :
    ∃ W : Nat → Nat → Hp → Prop, (∃ m, W 0 m (upd H1 D (.lst []))) ∧ ∀ i m H, W i m H →
      (J.stop i H ∧ Qd H) ∨ (J.go i H ∧ ∃ Nx : Hp → Prop, (∀ H', Nx H' → ∃ m', m' < m ∧ W (i + 1) m' H') ∧ ∀ v H', J.yld i H v H' → g v (wipe σ vs) H' fun σ2 H2 => wipe σ2 vs = wipe σ vs ∧ tt σ2 H2 fun b H3 =>
        if b = true then te σ2 H3 fun y H4 => ∃ acc, H4 D = some (.lst acc) ∧ acc.length < sizeLine ∧ Nx (upd H4 D (.lst (acc ++ [y]))) else Nx H3) := by
  refine ⟨fun i m H => m + i = xs.length ∧ M i H, ⟨xs.length, rfl, h0⟩, fun i m H ⟨e, p⟩ => ?_⟩
  cases m with
  | zero =>
    obtain rfl : i = xs.length := by omega
    exact .inl ⟨W.stop H (stand _ _ p), hd H p⟩
  | succ m =>
    have hi : i < xs.length := by omega
    refine .inr ⟨W.go i H hi (stand _ _ p), M (i + 1), fun H' p' => ⟨m, Nat.lt_succ_self m, by omega, p'⟩, fun v H' y => ?_⟩
    obtain ⟨T, x, rfl, hT, rfl, ex⟩ := W.yld i H v H' (stand _ _ p) y
    exact hs i x T H ex p hT
end R0

namespace R0
open PySem PySem.Spec PyProof.Rows L2 Hb St Sq Ow En Zp RZ Rd Xb Da Wa LamX Lc Ty Gu Sm
theorem nms7_nm : ∀ n ∈ nms7, nmB n = true ∧ IsNm n := by
  unfold IsNm
  decide +kernel
theorem lots7_nm : ∀ l ∈ lots7, l.length ≤ 3 ∧ ∀ x ∈ l, IsNm x := by
  unfold IsNm
  decide +kernel
theorem RHalf.nmR {rs : List Rm} (h : RHalf rs) : ∀ r ∈ rs, NmR r := fun r hr => ⟨(nms7_nm _ (h.in7 r hr)).2, fun l hl => (lots7_nm l ((h.tl r hr).2 l hl)).2⟩
theorem rne_same {x : V} {H : Hp} {Q : VK} (h : scal x x = true) (q : Q (.bl false) H) : rNe x x H Q := ⟨h, by rw [decide_eq_true rfl]; exact q⟩
theorem rne_lot {K : PySem.W.Frag} {H : Hp} {Q : VK} {v u : V} {l : Lot} (n : ∀ x ∈ l, IsNm x) (h1 : Dp K H v (lD l)) (h2 : Dp K H u (lD l)) (q : Q (.bl false) H) : rNeD K v u H Q :=
  ⟨_, _, h1, h2, (sh_lD n).ok (by decide), (sh_lD n).ok (by decide), by rw [eqv_lD, decide_eq_true rfl]; exact q⟩
theorem rne_sts {K : PySem.W.Frag} {H : Hp} {Q : VK} {a b : Addr} {xs ys : List V} {l : List Stp} (n : ∀ x ∈ l, IsNm x.1) (h1 : H a = some (.lst xs)) (a1 : All2 (fun v s => Dp K H v (stD s)) xs l) (h2 : H b = some (.lst ys)) (a2 : All2 (fun v s => Dp K H v (stD s)) ys l) (q : Q (.bl false) H) : rNeD K (.ref a) (.ref b) H Q :=
  ⟨_, _, .lst (SqL.of h1) (dpa_of (all2_mapR a1)), .lst (SqL.of h2) (dpa_of (all2_mapR a2)), (sh_lst fun x hx => sh_st (n x hx)).ok (by decide), (sh_lst fun x hx => sh_st (n x hx)).ok (by decide), by rw [show PyData.eqv (.list (l.map stD)) (.list (l.map stD)) = decide (l = l) from eqvAll_map eqv_st l l, decide_eq_true rfl]; exact q⟩
/-- the told NoName -/
theorem told_name {K : PySem.W.Frag} {CR CT CN dd : Addr} {H : Hp} {Q : VK} {v : V} {d : PyData} (e : H dd = some (errN v)) (dv : Dp K H v d) (s : showOk d = true) (q : ∀ u H', Same H H' → H' u = some (.tup [.str nameS, .str (PyData.shown d)]) → Q (.ref u) H') : Told3 K CR CT CN Q (.ref CN) (some dd) H :=
  ⟨dd, rfl, .inr (.inr ⟨rfl, v, e, rd_show dv s fun u hu => q u _ (same_new hu _) upd_same⟩)⟩
theorem told_rooms {K : PySem.W.Frag} {CR CT CN dd : Addr} {H : Hp} {Q : VK} {k : Int} (e : H dd = some (errH k)) (q : ∀ u H', Same H H' → H' u = some (.tup [.str roomsS, .int k]) → Q (.ref u) H') : Told3 K CR CT CN Q (.ref CR) (some dd) H :=
  ⟨dd, rfl, .inl ⟨rfl, k, e, fun u hu => q u _ (same_new hu _) upd_same⟩⟩
theorem told_text {K : PySem.W.Frag} {CR CT CN dd : Addr} {H : Hp} {Q : VK} {k : Int} (e : H dd = some (errH k)) (q : ∀ u H', Same H H' → H' u = some (.tup [.str textS, .int k]) → Q (.ref u) H') : Told3 K CR CT CN Q (.ref CT) (some dd) H :=
  ⟨dd, rfl, .inr (.inl ⟨rfl, k, e, fun u hu => q u _ (same_new hu _) upd_same⟩)⟩
theorem all2_mapL {α β γ : Type} {R : α → γ → Prop} {f : β → γ} : ∀ {as : List α} {bs : List β}, All2 (fun a b => R a (f b)) as bs → All2 R as (bs.map f)
  | _, _, .nil => .nil
  | _, _, .cons h t => .cons h (all2_mapL t)
theorem show_turn {n bell : Str} {dt : PyData} (hn : n ∈ nms7) (hb : bell ∈ bells4) (ht : dt ∈ turns6) : showOk (.tuple [.str n, .str bell, dt]) = true :=
  show_turns _ (List.mem_flatMap.mpr ⟨n, hn, List.mem_flatMap.mpr ⟨bell, hb, List.mem_map.mpr ⟨dt, ht, rfl⟩⟩⟩)
theorem turn_mem {k : Nat} (h : k ≤ 3) : PyData.int ((k : Nat) + 1 : Int) ∈ turns6 := by
  match k, h with
  | 0, _ => show PyData.int 1 ∈ turns6; simp [turns6]
  | 1, _ => show PyData.int 2 ∈ turns6; simp [turns6]
  | 2, _ => show PyData.int 3 ∈ turns6; simp [turns6]
  | 3, _ => show PyData.int 4 ∈ turns6; simp [turns6]
def stepsOf (n : Str) : List PyData := [.tuple [.str n, .int 0], .tuple [.str n, .int 1], .tuple [.str n, .int 2], .tuple [.str n, .int 3], .tuple [.str n, .int 4], .tuple [.str n, .bool true], .str n, .tuple [.str n]]
theorem show_step {n : Str} (hn : n ∈ nms7) (i : Nat) (hi : i < 8 := by decide) : showOk ((stepsOf n)[i]'hi) = true :=
  show_steps _ (List.mem_append_left _ (List.mem_flatMap.mpr ⟨n, hn, List.getElem_mem (l := stepsOf n) hi⟩))
theorem show_stepN {n : Str} (hn : n ∈ nms7) {k : Nat} (h : k ≤ 3) : showOk (.tuple [.str n, .int ((k : Nat) + 1 : Int)]) = true := by
  match k, h with
  | 0, _ => exact show_step hn 1
  | 1, _ => exact show_step hn 2
  | 2, _ => exact show_step hn 3
  | 3, _ => exact show_step hn 4
theorem show3 {d : PyData} (h : showOk d = true) : PyData.showable d = true ∧ PyData.hasDict d = false ∧ PyData.depth d < 40 ∧ (PyData.shown d).length ≤ sizeLine :=
  let ⟨a, b, c, e, _⟩ := showOk_all h; ⟨a, b, c, Nat.le_trans e (by rw [sizeLine_eq]; decide)⟩
theorem sm2s {a b : PyData} (h1 : ShortD a) (h2 : ShortD b) : SmS (.tuple [a, b]) := fun x hx => by
  simp only [List.mem_cons, List.mem_nil_iff, or_false] at hx
  rcases hx with rfl | rfl
  · exact h1
  · exact h2
def spotsV (bell : Str) (t : Tale) : List V := (spots bell t 0).map fun k => V.int ((k : Nat) + 1 : Int)
theorem spots_take {bell : Str} {t : Tale} {j : Nat} {l : Lot} (e : t[j]? = some l) : spots bell (t.take (j + 1)) 0 = spots bell (t.take j) 0 ++ (if bell ∈ l then [j] else []) := by
  have hj := (List.getElem?_eq_some_iff.mp e).1
  rw [List.take_add_one, e]
  show spots bell (t.take j ++ [l]) 0 = _
  rw [spots_app, List.length_take, Nat.min_eq_left (Nat.le_of_lt hj), Nat.zero_add]
section
variable {P : Program} {w : World} {K : PySem.W.Frag} {mg : Str → Option Value} {base : Heap}
def spKept (K : PySem.W.Frag) (C : Addr) (T : List (Addr × Str)) : Sp := fun vs H Q _ => ∃ (m r : Addr) (R : RD), vs = [.ref m, .ref r] ∧ RoomsAt K C H m R ∧ ListAt K H r rmD R.rooms ∧ RLaw R.rooms R.gongs R.calls ∧ Tabs T H ∧ ∀ H', ExtN H H' → Tabs T H' → Q (.bl true) H'
theorem ok_kept {f c Pt C CR CT CN B g eg ec : Addr} {T : List (Addr × Str)} {oc : Value} {od an : Option Addr} {osl : Array (Option Value)} {kV doc pm ct : Value}
    (lk : K.lookup f = some ⟨oc, od, .func (PySem.W.fnOf "_law_kept" "_law_kept" (defArgs s__law_kept) (defBody s__law_kept) (defScope s__law_kept) .none kV doc pm an (.ref c) ct), osl⟩) (cd : PySem.W.codeIn K (.ref c) "_law_kept" = true) (TB : TabB base mg c Pt)
    (inT : (Pt, qKept) ∈ T) (one : ∀ y ∈ T, y.1 = Pt → y.2 = qKept) (L : LawC P w K mg base C CR CT CN B g eg ec) :
    FnG P w K mg base CX0 10 f (PySem.W.fnOf "_law_kept" "_law_kept" (defArgs s__law_kept) (defBody s__law_kept) (defScope s__law_kept) .none kV doc pm an (.ref c) ct) ["made", "rooms"] (spKept K C T) := by
  obtain ⟨fdg, ⟨⟨ocg, odg, kVg, docg, pmg, ang, cdvg, ctg, oslg, rfl, lkg, cdg'⟩, kpg⟩, bg⟩ := L.wr
  have mwr := L.mwr
  have W3 := L.W3
  have TC := L.TC
  have M_Rooms := L.mkR
  have SM_read := L.rd
  have DX_many_lots := L.many
  have DKX_many_lots_name := L.manyK
  have DX_lot_of := L.lot
  have DKX_lot_of_step := L.lotK
  have DX_step_of := L.stp
  have DKX_step_of_turn_bell_name := L.stpK
  have n_len := L.n_len
  have n_range := L.n_range
  have n_repr := L.n_repr
  have n_enumerate := L.n_enumerate
  refine goC lk cd sc__law_kept (fun vs H Q E h => ?_) (fun A outer s H vs Q E hr fr h => ?_)
  · obtain ⟨_, _, _, rfl, _⟩ := h
    rfl
  · obtain ⟨m, r, R, rfl, ra, lr, rl, tb, q⟩ := h
    refine ⟨_, (Evl.pss_cut (ps_for PassesOwn.never rfl (pi_seq (pv 1)) (pg_tup rfl (pgs_cons (pg_name (i := 7) sc__law_kept.nd rfl (Or.inr rfl)) (pgs_cons (pg_name (i := 2) sc__law_kept.nd rfl (Or.inl rfl)) pgs_nil)))
      (Evl.pss_cut (ps_if (pt_cmpR op_ne (pe_doKX DKX_many_lots_name TC.cl (hr.mono (by decide)) (passes_call L2.takes0 fun _ _ _ _ h => h) (pv 0) (pk_cons (pv 7) pk_nil)) (pe_callB call_len_seq (by rfl) n_len PySem.boot_len (pa_cons (pv 2) pa_nil)) (nomark _)) (pss_one (ps_ret pe_bl)) pss_nil)
    (Evl.pss_cut (ps_for PassesOwn.never rfl (pi_or (pi_enum (by rfl) n_enumerate (pa_cons (pv 2) pa_nil)) (pi_enumT (by rfl) n_enumerate (pa_cons (pv 2) pa_nil))) (pg_tup rfl (pgs_cons (pg_name (i := 3) sc__law_kept.nd rfl (Or.inl rfl)) (pgs_cons (pg_name (i := 4) sc__law_kept.nd rfl (Or.inl rfl)) pgs_nil)))
      (pss_one (ps_if (pt_cmpR (op_neD hr.units) (pe_doKX DKX_lot_of_step TC.cl (hr.mono (by decide)) (passes_call L2.takes0 fun _ _ _ _ h => h) (pv 0) (pk_cons (pe_tup (pa_cons (pv 7) (pa_cons (pe_op op_add (pv 3) pe_int) pa_nil))) pk_nil)) (pv 4) (nomark _)) (pss_one (ps_ret pe_bl)) pss_nil)))
    (Evl.pss_cut (ps_for PassesOwn.never rfl (pi_seq (pe_tup (pa_cons pe_str (pa_cons pe_str (pa_cons pe_str (pa_cons pe_str pa_nil)))))) (pg_name (i := 6) sc__law_kept.nd rfl (Or.inr rfl))
      (Evl.pss_cut (ps_setLc (i := 5) (own := [("at", 3), ("lot", 4)]) (g := gTup K 2 (gCons (gName 3) (gCons (gName 4) gNil))) (by rfl) sc__law_kept.nd rfl rfl (sw_true rfl rfl rfl (by decide +kernel)) (pi_or (pi_enum (by rfl) n_enumerate (pa_cons (pv 2) pa_nil)) (pi_enumT (by rfl) n_enumerate (pa_cons (pv 2) pa_nil))) (blkOk_by (N := ["made", "rooms", "tale", "at", "lot", "spots", "bell", "name", "step", "turn", "spot"]) (sc := defScope s__law_kept) (by decide +kernel)) (fun _ _ _ _ _ => pg_tup rfl (pgs_cons (pg_name (i := 3) sc__law_kept.nd rfl (Or.inl rfl)) (pgs_cons (pg_name (i := 4) sc__law_kept.nd rfl (Or.inl rfl)) pgs_nil))) (fun _ _ _ _ _ => pts_one (pt_cmpR (r := rIn K false) op_in_seq (pv 6) (pv 4) rfl)) (fun _ _ _ _ _ => pe_op op_add (pv 3) pe_int))
    (Evl.pss_cut (ps_if (pt_cmpR (op_neD hr.units) (pe_lc (own := [("at", 3)]) (g := gName 3) rfl sc__law_kept.nd (pi_range1 (by rfl) n_range (pa_cons (pe_callB call_len_seq (by rfl) n_len PySem.boot_len (pa_cons (pv 5) pa_nil)) pa_nil)) (blkOk_by (N := ["made", "rooms", "tale", "at", "lot", "spots", "bell", "name", "step", "turn", "spot"]) (sc := defScope s__law_kept) (by decide +kernel)) (fun _ _ _ _ _ => pg_name (i := 3) sc__law_kept.nd rfl (Or.inl rfl)) (fun _ _ _ _ _ => pts_nil) (fun _ _ _ _ _ => pe_doKX DKX_step_of_turn_bell_name TC.cl (hr.mono (by decide)) (passes_call L2.takes0 fun _ _ _ _ h => h) (pv 0) (pk_cons (pe_op op_add (pv 3) pe_int) (pk_cons (pv 6) (pk_cons (pv 7) pk_nil))))) (pe_lc (own := [("spot", 10)]) (g := gName 10) rfl sc__law_kept.nd (pi_seq (pv 5)) (blkOk_by (N := ["made", "rooms", "tale", "at", "lot", "spots", "bell", "name", "step", "turn", "spot"]) (sc := defScope s__law_kept) (by decide +kernel)) (fun _ _ _ _ _ => pg_name (i := 10) sc__law_kept.nd rfl (Or.inl rfl)) (fun _ _ _ _ _ => pts_nil) (fun _ _ _ _ _ => pe_tup (pa_cons (pv 7) (pa_cons (pv 10) pa_nil)))) (nomark _)) (pss_one (ps_ret pe_bl)) pss_nil)
    (pss_one (ps_for PassesOwn.never rfl (pi_seq (pe_tup (pa_cons pe_int (pa_cons (pe_op op_add (pe_callB call_len_seq (by rfl) n_len PySem.boot_len (pa_cons (pv 5) pa_nil)) pe_int) (pa_cons pe_non pa_nil))))) (pg_name (i := 9) sc__law_kept.nd rfl (Or.inr rfl))
      (pss_one (ps_if (pt_cmpR (op_neD hr.units) (pe_lamcall (T := T) (t := _) (TT := TWrong K CR CT CN) (k := 7) (a := "work") (Ng := ["work", "e"]) rfl mwr kpg lkg cdg' bg sc__law_wrong rfl (.inl rfl) (wrong_gives W3 fr (un_le hr)) TB rfl inT one (hr.mono (by decide)) (lamS_by rfl) rfl (fun _ _ _ _ _ => rfl) (fun A outer s H E f c' hr2 => pe_doX DX_step_of TC.cl (hr2.mono (by decide)) (passes_call (takes_of rfl rfl rfl rfl) (fun _ _ _ _ h => h)) (pv 0) (pa_cons (pv 7) (pa_cons (pv 6) (pa_cons (pv 9) pa_nil))))) (pe_tup (pa_cons pe_str (pa_cons (pe_callB (cr_repr fr hr.units) (by rfl) n_repr (by decide +kernel) (pa_cons (pe_tup (pa_cons (pv 7) (pa_cons (pv 6) (pa_cons (pv 9) pa_nil)))) pa_nil)) pa_nil))) (nomark _)) (pss_one (ps_ret pe_bl)) pss_nil)))))))
    (pss_one (ps_for PassesOwn.never rfl (pi_seq (pe_tup (pa_cons (pe_tup (pa_cons (pv 7) (pa_cons pe_int pa_nil))) (pa_cons (pe_tup (pa_cons (pv 7) (pa_cons (pe_op op_add (pe_callB call_len_seq (by rfl) n_len PySem.boot_len (pa_cons (pv 2) pa_nil)) pe_int) pa_nil))) (pa_cons (pe_tup (pa_cons (pv 7) (pa_cons pe_bl pa_nil))) (pa_cons (pv 7) (pa_cons pe_non (pa_cons (pe_tup (pa_cons (pv 7) pa_nil)) (pa_cons (pe_tup (pa_cons pe_str (pa_cons pe_int pa_nil))) pa_nil))))))))) (pg_name (i := 8) sc__law_kept.nd rfl (Or.inr rfl))
      (pss_one (ps_if (pt_cmpR (op_neD hr.units) (pe_lamcall (T := T) (t := _) (TT := TWrong K CR CT CN) (k := 7) (a := "work") (Ng := ["work", "e"]) rfl mwr kpg lkg cdg' bg sc__law_wrong rfl (.inl rfl) (wrong_gives W3 fr (un_le hr)) TB rfl inT one (hr.mono (by decide)) (lamS_by rfl) rfl (fun _ _ _ _ _ => rfl) (fun A outer s H E f c' hr2 => pe_doX DX_lot_of TC.cl (hr2.mono (by decide)) (passes_call (takes_of rfl rfl rfl rfl) (fun _ _ _ _ h => h)) (pv 0) (pa_cons (pv 8) pa_nil))) (pe_tup (pa_cons pe_str (pa_cons (pe_callB (cr_repr fr hr.units) (by rfl) n_repr (by decide +kernel) (pa_cons (pv 8) pa_nil)) pa_nil))) (nomark _)) (pss_one (ps_ret pe_bl)) pss_nil))))))))
    (pss_one (ps_ret (pe_cmpR (op_eqD hr.units) (pe_lamcall (T := T) (t := _) (TT := TWrong K CR CT CN) (k := 7) (a := "work") (Ng := ["work", "e"]) rfl mwr kpg lkg cdg' bg sc__law_wrong rfl (.inl rfl) (wrong_gives W3 fr (un_le hr)) TB rfl inT one (hr.mono (by decide)) (lamS_by rfl) rfl (fun _ _ _ _ _ => rfl) (fun A outer s H E f c' hr2 => pe_doX DX_many_lots TC.cl (hr2.mono (by decide)) (passes_call (takes_of rfl rfl rfl rfl) (fun _ _ _ _ h => h)) (pv 0) (pa_cons pe_str pa_nil))) (pe_tup (pa_cons pe_str (pa_cons (pe_callB (cr_repr fr hr.units) (by rfl) n_repr (by decide +kernel) (pa_cons pe_str pa_nil)) pa_nil))) (nomark _))))), ?_⟩
    obtain ⟨xs, er, al⟩ := lr
    have rh := rl.half
    have nd := rh.nd
    refine ⟨fun σ H' => (∃ o2 o3 o4 o5 o6 o7 o8 o9, σ = [some (.ref m), some (.ref r), o2, o3, o4, o5, o6, o7, o8, o9, none]) ∧ ExtN H H' ∧ Tabs T H', ?_, ?_⟩
    · refine ⟨_, rfl, r, xs, rfl, SqX.lst er, fun J S W z0 => ?_⟩
      refine for_sq W (fun i σ H' => (∃ o2 o3 o4 o5 o6 o7 o8 o9, σ = [some (.ref m), some (.ref r), o2, o3, o4, o5, o6, o7, o8, o9, none]) ∧ ExtN H H' ∧ Tabs T H') ⟨⟨none, none, none, none, none, none, none, none, rfl⟩, ExtN.refl _, tb⟩ (fun i σ H' pv => W.keep (fun o e => by rw [er] at e; cases e; exact pv.2.1 _ _ er notbl_l) z0) ?_ (fun _ H' pv => pv)
      rintro i σ H2 y ey ⟨⟨o2, o3, o4, o5, o6, o7, o8, o9, rfl⟩, x2, t2⟩
      obtain ⟨rm, erm, dr⟩ := al.get ey
      have hrm := at_mem erm
      obtain ⟨b', vt, rfl, hb, ht⟩ := dp_rm (dp_ext x2 dr)
      obtain ⟨tb', ts, rfl, htb, tl⟩ := dp_seq ht
      have nmr := rh.nmR rm hrm
      have n7 := rh.in7 rm hrm
      have tl3 := rh.tl rm hrm
      have ltl := tl.len
      refine ⟨b', _, rfl, hb, rfl, _, _, rfl, _, _, rfl, rfl, ?_⟩
      have raE : ∀ {H'}, ExtN H H' → RoomsAt K C H' m R := fun x => RmAt.ext ra x
      have hmE : ∀ {H'}, ExtN H H' → ∃ dx fs, H' m = some (.ins C dx fs) ∧ fs.lookup (Str.ofString "many_lots") = none ∧ fs.lookup (Str.ofString "lot_of") = none ∧ fs.lookup (Str.ofString "step_of") = none := fun x => by
        obtain ⟨dx, a, b, c, h0, _⟩ := raE x
        exact ⟨dx, _, h0, rfl, rfl, rfl⟩
      refine ⟨fun σ H' => (∃ o3 o4 o5 o6 o8 o9, σ = [some (.ref m), some (.ref r), some (.ref tb'), o3, o4, o5, o6, some (.str rm.1), o8, o9, none]) ∧ ExtN H2 H' ∧ Tabs T H', ?_, ?_⟩
      · obtain ⟨dx, fs, hm, f1, _, _⟩ := hmE x2
        refine ⟨_, rfl, m, dx, fs, rfl, hm, f1, _, rfl, rfl, m, rm.1, R, rfl, raE x2, fun t et H3 s3 => ?_, fun no => ?_⟩
        · rw [lk_hit nd hrm] at et
          obtain rfl := Option.some.inj et
          refine ⟨_, rfl, tb', ts, rfl, .inr (tupFix (Fix.of s3) htb), ?_⟩
          rw [ltl]
          exact rne_same rfl ⟨_, rfl, iteF ⟨⟨_, _, _, _, _, _, rfl⟩, ExtN.same s3, t2.ext s3⟩⟩
        · rw [lk_hit nd hrm] at no; cases no
      rintro σ H3 ⟨⟨o3, o4, o5, o6, o8, o9, rfl⟩, x3, t3⟩
      refine ⟨fun σ H' => (∃ o3 o4 o5 o6 o8 o9, σ = [some (.ref m), some (.ref r), some (.ref tb'), o3, o4, o5, o6, some (.str rm.1), o8, o9, none]) ∧ ExtN H2 H' ∧ Tabs T H', ?_, ?_⟩
      · refine .inr ⟨_, rfl, tb', rfl, ⟨_, sqtExt htb x3⟩, ?_⟩
        refine for_en en_tup (xs := ts) (fun j σ H' => (∃ o3 o4 o5 o6 o8 o9, σ = [some (.ref m), some (.ref r), some (.ref tb'), o3, o4, o5, o6, some (.str rm.1), o8, o9, none]) ∧ ExtN H2 H' ∧ Tabs T H') ⟨⟨_, _, _, _, _, _, rfl⟩, x3, t3⟩ (fun j σ H' pv => sqtExt htb pv.2.1) ?_ (fun _ H' pv => pv)
        rintro j σ H4 y tt ey4 ⟨⟨p3, p4, p5, p6, p8, p9, rfl⟩, x4, t4⟩ htt
        obtain ⟨l, el, dl⟩ := tl.get ey4
        have s5 := same_new htt (.tup [.int (j : Nat), y])
        refine ⟨tt, _, rfl, SqT.of upd_same, rfl, _, _, rfl, _, _, rfl, rfl, ?_⟩
        generalize upd H4 tt (.tup [.int (j : Nat), y]) = H5 at s5 ⊢
        have x5 : ExtN H2 H5 := x4.trans (ExtN.same s5)
        obtain ⟨dx, fs, hm, _, f2, _⟩ := hmE (x2.trans x5)
        have hj := (List.getElem?_eq_some_iff.mp el).1
        refine ⟨_, rfl, m, dx, fs, rfl, hm, f2, _, rfl, _, rfl, _, _, rfl, rfl, by show 2 ≤ sizeLine; decide, fun u hu => ?_⟩
        have s6 := same_new hu (.tup [V.str rm.1, .int ((j : Nat) + 1 : Int)])
        have x6 : ExtN H2 (upd H5 u (.tup [V.str rm.1, .int ((j : Nat) + 1 : Int)])) := x5.trans (ExtN.same s6)
        refine ⟨rfl, m, .ref u, .tuple [.str rm.1, .int ((j : Nat) + 1 : Int)], R, rfl, raE (x2.trans x6), .tup (SqT.of upd_same) (.cons (.str _) (.cons (.int _) .nil)), fun x hx => ?_, fun l' hl' v' H7 s7 dv => ?_, fun no => ?_⟩
        · simp only [List.mem_cons, List.mem_nil_iff, or_false] at hx
          rcases hx with rfl | rfl
          · show rm.1.length ≤ 1000
            have := nmr.1.2.1
            omega
          · trivial
        · rw [lot_hit nd hrm (nms7_nm _ n7).1 (by omega) (by omega), show (((j : Nat) + 1 : Int) - 1).toNat = j by omega, el] at hl'
          obtain rfl := Option.some.inj hl'
          have x7 : ExtN H2 H7 := x6.trans (ExtN.same s7)
          exact ⟨_, rfl, rne_lot (nmr.2 l (at_mem el)) dv (dp_ext x7 dl) ⟨_, rfl, iteF ⟨⟨_, _, _, _, _, _, rfl⟩, x7, t4.ext fun b o e => s7 _ _ (s6 _ _ (s5 _ _ e))⟩⟩⟩
        · rw [lot_hit nd hrm (nms7_nm _ n7).1 (by omega) (by omega), show (((j : Nat) + 1 : Int) - 1).toNat = j by omega, el] at no
          cases no
      rintro σ H4 ⟨⟨o3, o4, o5, o6, o8, o9, rfl⟩, x4, t4⟩
      refine ⟨fun σ H' => (∃ o3 o4 o5 o6 o8 o9, σ = [some (.ref m), some (.ref r), some (.ref tb'), o3, o4, o5, o6, some (.str rm.1), o8, o9, none]) ∧ ExtN H2 H' ∧ Tabs T H', ?_, ?_⟩
      · refine ⟨by show 4 ≤ sizeLine; decide, fun tq htq => ?_⟩
        have sq := same_new htq (.tup (bells4.map V.str))
        have eq : upd H4 tq (.tup (bells4.map V.str)) tq = some (.tup (bells4.map V.str)) := upd_same
        generalize e5 : upd H4 tq (.tup (bells4.map V.str)) = H5 at sq eq
        rw [show upd H4 tq (.tup [V.str (Str.ofString "ding"), .str (Str.ofString "dong"), .str (Str.ofString "tick"), .str (Str.ofString "none")]) = H5 from e5]
        refine ⟨tq, _, rfl, SqX.tup eq, fun J S W z0 => ?_⟩
        have x5 : ExtN H2 H5 := x4.trans (ExtN.same sq)
        refine for_sq W (fun k σ H' => (∃ o3 o4 o5 o6 o8 o9, σ = [some (.ref m), some (.ref r), some (.ref tb'), o3, o4, o5, o6, some (.str rm.1), o8, o9, none]) ∧ ExtN H5 H' ∧ Tabs T H') ⟨⟨_, _, _, _, _, _, rfl⟩, ExtN.refl _, t4.ext sq⟩ (fun k σ H' pv => W.keep (fun o e => by rw [eq] at e; cases e; exact pv.2.1 _ _ eq notbl) z0) ?_ (fun _ H' pv => ⟨pv.1, x5.trans pv.2.1, pv.2.2⟩)
        rintro k σ H6 y ey6 ⟨⟨p3, p4, p5, p6, p8, p9, rfl⟩, x56, t6⟩
        obtain ⟨bell, ebell, rfl⟩ := str_at ey6
        have hbell := at_mem ebell
        have x6 : ExtN H2 H6 := x5.trans x56
        refine ⟨fun σ H' => ∃ q, σ = [some (.ref m), some (.ref r), some (.ref tb'), p3, p4, some (.ref q), some (.str bell), some (.str rm.1), p8, p9, none] ∧ Same H6 H' ∧ H' q = some (.lst (spotsV bell rm.2)), ?_, ?_⟩
        · refine .inr ⟨_, rfl, tb', rfl, ⟨_, sqtExt htb x6⟩, fun D hD => ?_⟩
          refine lc_en en_tup (xs := ts) (fun j H' => Same H6 H' ∧ H' D = some (.lst ((spots bell (rm.2.take j) 0).map fun k => V.int ((k : Nat) + 1 : Int)))) ⟨same_new hD _, upd_same⟩ (fun j H' pv => tupFix (Fix.of pv.1) (sqtExt htb x6)) ?_ ?_
          · rintro j y tt H7 ey7 ⟨s7, e7⟩ htt
            obtain ⟨l, el, dl⟩ := tl.get ey7
            obtain ⟨b, rfl, hb7⟩ := dp_lot (dp_same s7 (dp_ext x6 dl))
            have s8 := same_new htt (.tup [.int (j : Nat), V.ref b])
            refine ⟨tt, _, rfl, SqT.of upd_same, rfl, _, _, rfl, _, _, rfl, rfl, rfl, ?_⟩
            generalize upd H7 tt (.tup [.int (j : Nat), V.ref b]) = H8 at s8 ⊢
            refine ⟨_, rfl, _, rfl, b, _, rfl, .inr (tupFix (Fix.of s8) hb7), rfl, flat_strs l, _, rfl, ?_⟩
            rw [inV_strs]
            have sp := spots_take (bell := bell) el
            have e8 := s8 _ _ e7
            have sl := spots_len (bell := bell) (rm.2.take j) 0
            have tk := List.length_take_le' j rm.2
            refine iteD (fun c => ⟨_, rfl, _, _, rfl, rfl, _, e8, by rw [List.length_map, sizeLine_eq]; omega, fun b o e => ?_, ?_⟩) fun c => ⟨s7.trans s8, ?_⟩
            · rw [upd_ne (ne_of_none e hD)]
              exact s8 _ _ (s7 _ _ e)
            · rw [upd_same, sp, if_pos c, List.map_append]; rfl
            · rw [sp, if_neg c, List.append_nil]; exact e8
          · rintro H7 ⟨s7, e7⟩
            rw [ltl, List.take_length] at e7
            exact ⟨D, rfl, s7, e7⟩
        rintro σ H7 ⟨q7, rfl, s7, e7⟩
        have x7 : ExtN H2 H7 := x6.trans (ExtN.same s7)
        have t7 := t6.ext s7
        have lsp := spots_len (bell := bell) rm.2 0
        have lsv : (spotsV bell rm.2).length = (spots bell rm.2 0).length := by unfold spotsV; rw [List.length_map]
        refine ⟨fun σ H' => σ = [some (.ref m), some (.ref r), some (.ref tb'), p3, p4, some (.ref q7), some (.str bell), some (.str rm.1), p8, p9, none] ∧ Same H7 H' , ?_, ?_⟩
        · refine ⟨_, rfl, q7, _, rfl, .inl (SqL.of e7), _, rfl, by rw [lsv]; omega, by rw [lsv]; omega, fun D hD => ?_⟩
          let stl : List Stp := (spots bell rm.2 0).map fun k => (rm.1, ((k : Nat) : Int) + 1)
          refine lc_range (lo := 0) (n := (((spotsV bell rm.2).length : Nat) : Int).toNat) (fun i H' => Same H7 H' ∧ ∃ ys, H' D = some (.lst ys) ∧ All2 (fun v s => Dp K H' v (stD s)) ys (stl.take i)) ⟨same_new hD _, [], upd_same, .nil⟩ ?_ ?_
          · rintro i' H8 hi ⟨s8, ys, e8, a8⟩
            have hi : i' < (spotsV bell rm.2).length := hi
            rw [lsv] at hi
            obtain ⟨n, en⟩ : ∃ n, (spots bell rm.2 0)[i']? = some n := ⟨_, List.getElem?_eq_getElem hi⟩
            have x8 : ExtN H2 H8 := x7.trans (ExtN.same s8)
            obtain ⟨dx, fs, hm, _, _, f3⟩ := hmE (x2.trans x8)
            have est : stepOfR rm.1 bell (.int ((0 : Int) + (i' : Nat) + 1)) R.rooms = some n := by
              rw [step_hit nd hrm, Int.zero_add, turn_spot, en]
            refine ⟨rfl, _, rfl, m, dx, fs, rfl, hm, f3, _, rfl, _, _, rfl, rfl, _, rfl, _, rfl, rfl, m, rm.1, bell, .int ((0 : Int) + (i' : Nat) + 1), .int ((0 : Int) + (i' : Nat) + 1), R, rfl, raE (x2.trans x8), .int _, fun n' hn' p H9 s9 ep => ?_, fun no => ?_⟩
            · rw [est] at hn'
              obtain rfl := Option.some.inj hn'
              have e9 := s9 _ _ e8
              have ny := a8.len
              have nys := List.length_take_le' i' stl
              have lst : stl.length = (spots bell rm.2 0).length := List.length_map ..
              have fx : Fix H8 (upd H9 D (.lst (ys ++ [V.ref p]))) := (Fix.of s9).trans (Fix.lst e9)
              have np : p ≠ D := fun z => by rw [z, e9] at ep; cases ep
              refine ⟨ys, e9, by rw [sizeLine_eq]; omega, fun b o e => ?_, ys ++ [V.ref p], upd_same, ?_⟩
              · rw [upd_ne (ne_of_none e hD)]
                exact s9 _ _ (s8 _ _ e)
              · rw [List.take_add_one, show stl[i']? = some (rm.1, ((n : Nat) : Int) + 1) by rw [List.getElem?_map, en]; rfl]
                exact (a8.imp fun _ _ h => dp_fix fx (noL_st _) h).app (.cons (.tup (SqT.of (by rw [upd_ne np]; exact ep)) (.cons (.str _) (.cons (.int _) .nil))) .nil)
            · rw [est] at no; cases no
          · rintro H8 ⟨s8, ys, e8, a8⟩
            have lst : stl.length = (spots bell rm.2 0).length := List.length_map ..
            have a8' : All2 (fun v s => Dp K H8 v (stD s)) ys stl := by
              rw [show (((spotsV bell rm.2).length : Nat) : Int).toNat = stl.length by rw [lsv, lst]; rfl, List.take_length] at a8
              exact a8
            refine ⟨_, rfl, q7, _, rfl, SqX.lst (s8 _ _ e7), fun J2 S2 W2 y0 D2 hD2 => ?_⟩
            refine lc_mf (ds := spots bell rm.2 0) W2 (fun _ => true) (fun H v n => Dp K H v (stD (rm.1, ((n : Nat) : Int) + 1))) y0 hD2 lsv (fun i2 y n H9 ey9 en s9 m9 => ?_) (fun H9 zs s9 e9 al9 => ?_)
            · obtain rfl := at_map ey9 en
              refine ⟨rfl, _, rfl, _, rfl, by show 2 ≤ sizeLine; decide, fun u hu => ?_⟩
              exact mf_yes m9 hD2 (fun _ _ _ _ f h => dp_fix f (noL_st _) h) en (by omega) (same_new hu _) rfl (.tup (SqT.of upd_same) (.cons (.str _) (.cons (.int _) .nil)))
            · rw [Rd.filter_all] at al9
              have a9 := all2_mapR al9
              refine rne_sts (l := stl) (fun x hx => ?_) (s9 _ _ e8) (a8'.imp fun _ _ h => dp_same s9 h) e9 ?_ ⟨_, rfl, iteF ⟨rfl, s8.trans s9⟩⟩
              · obtain ⟨n, _, rfl⟩ := List.mem_map.mp hx
                exact nmr.1
              · exact all2_mapL al9
        rintro σ H8 ⟨rfl, s8⟩
        have x8 : ExtN H2 H8 := x7.trans (ExtN.same s8)
        have t8 := t7.ext s8
        refine ⟨_, rfl, q7, _, rfl, .inl (SqL.of (s8 _ _ e7)), _, _, rfl, rfl, by show 3 ≤ sizeLine; decide, fun tq htq => ?_⟩
        have s9 := same_new htq (.tup [V.int 0, .int (((spotsV bell rm.2).length : Nat) + 1 : Int), .non])
        have e9 : upd H8 tq (.tup [V.int 0, .int (((spotsV bell rm.2).length : Nat) + 1 : Int), .non]) tq = some (.tup [V.int 0, .int (((spotsV bell rm.2).length : Nat) + 1 : Int), .non]) := upd_same
        generalize upd H8 tq (.tup [V.int 0, .int (((spotsV bell rm.2).length : Nat) + 1 : Int), .non]) = H9 at s9 e9 ⊢
        have xx9 : ExtN H2 H9 := x8.trans (ExtN.same s9)
        refine ⟨tq, _, rfl, SqX.tup e9, fun J2 S2 W2 y0 => ?_⟩
        refine for_sq W2 (fun k σ H' => (∃ o9, σ = [some (.ref m), some (.ref r), some (.ref tb'), p3, p4, some (.ref q7), some (.str bell), some (.str rm.1), p8, o9, none]) ∧ ExtN H9 H' ∧ Tabs T H') ⟨⟨_, rfl⟩, ExtN.refl _, t8.ext s9⟩ (fun k σ H' pv => W2.keep (fun o e => by rw [e9] at e; cases e; exact pv.2.1 _ _ e9 notbl) y0) ?_ (fun σ H' pv => by
          obtain ⟨⟨o9', rfl⟩, xe, te⟩ := pv
          exact ⟨⟨_, _, _, _, _, _, rfl⟩, (ExtN.same ((s7.trans s8).trans s9)).trans xe |> x56.trans, te⟩)
        rintro k2 σ HA y ey10 ⟨⟨o9', rfl⟩, xA, tA⟩
        obtain ⟨dt, dy, ht6, hno⟩ : ∃ dt, (∀ H', Dp K H' y dt) ∧ dt ∈ turns6 ∧ turnN bell rm.2 dt = none := by
          match k2, ey10 with
          | 0, ey => cases ey; exact ⟨.int 0, fun _ => .int 0, by simp [turns6], rfl⟩
          | 1, ey =>
            cases ey
            refine ⟨_, fun _ => .int _, ?_, ?_⟩
            · rw [lsv]; exact turn_mem (by omega)
            · rw [lsv]; exact turn_end _ _
          | 2, ey => cases ey; exact ⟨.none, fun _ => .non, by simp [turns6], rfl⟩
        have sk : showOk (.tuple [.str rm.1, .str bell, dt]) = true := show_turn n7 hbell ht6
        refine ⟨tA, fun HB xB tB => ?_⟩
        obtain ⟨dx, fs, hm, _, _, f3⟩ := hmE ((x2.trans xx9).trans (xA.trans xB))
        refine ⟨_, rfl, m, dx, fs, rfl, hm, f3, _, rfl, _, rfl, _, rfl, m, rm.1, bell, y, dt, R, rfl, raE ((x2.trans xx9).trans (xA.trans xB)), dy _, fun n hn => ?_, fun _ dd tt HC sC et ed => ?_⟩
        · rw [step_hit nd hrm, hno] at hn; cases hn
        refine told_name ed (.tup (SqT.of et) (.cons (.str _) (.cons (.str _) (.cons (dy _) .nil)))) sk fun u1 HD sD e1 => ?_
        refine ⟨_, rfl, _, rfl, _, rfl, by show 3 ≤ sizeLine; decide, fun w1 hw1 => ?_⟩
        have sE := same_new hw1 (.tup [V.str rm.1, .str bell, y])
        have eE : upd HD w1 (.tup [V.str rm.1, .str bell, y]) w1 = some (.tup [V.str rm.1, .str bell, y]) := upd_same
        generalize upd HD w1 (.tup [V.str rm.1, .str bell, y]) = HE at sE eE ⊢
        obtain ⟨k1, k2, k3, k4⟩ := show3 sk
        refine ⟨.ref w1, _, rfl, .tup (SqT.of eE) (.cons (.str _) (.cons (.str _) (.cons (dy _) .nil))), k1, k2, k3, k4, by show 2 ≤ sizeLine; decide, fun u2 hu2 => ?_⟩
        have sF := same_new hu2 (.tup [V.str nameS, .str (PyData.shown (.tuple [.str rm.1, .str bell, dt]))])
        exact rne_told sk (sF _ _ (sE _ _ e1)) upd_same ⟨_, rfl, iteF ⟨⟨_, rfl⟩, (xA.trans xB).trans (ExtN.same (((sC.trans sD).trans sE).trans sF)), tB.ext (((sC.trans sD).trans sE).trans sF)⟩⟩
      rintro σ H5 ⟨⟨o3, o4, o5, o6, o8, o9, rfl⟩, x5, t5⟩
      refine ⟨_, rfl, by show 2 ≤ sizeLine; decide, fun u1 h1 => ?_⟩
      have s1 := same_new h1 (.tup [V.str rm.1, .int 0])
      have e1 : upd H5 u1 (.tup [V.str rm.1, .int 0]) u1 = some (.tup [V.str rm.1, .int 0]) := upd_same
      generalize upd H5 u1 (.tup [V.str rm.1, .int 0]) = G1 at s1 e1 ⊢
      refine ⟨_, rfl, _, rfl, tb', ts, rfl, .inr (tupFix (Fix.of s1) (sqtExt htb x5)), _, _, rfl, rfl, by show 2 ≤ sizeLine; decide, fun u2 h2 => ?_⟩
      have s2 := same_new h2 (.tup [V.str rm.1, .int ((ts.length : Nat) + 1 : Int)])
      have e2 : upd G1 u2 (.tup [V.str rm.1, .int ((ts.length : Nat) + 1 : Int)]) u2 = some (.tup [V.str rm.1, .int ((ts.length : Nat) + 1 : Int)]) := upd_same
      generalize upd G1 u2 (.tup [V.str rm.1, .int ((ts.length : Nat) + 1 : Int)]) = G2 at s2 e2 ⊢
      refine ⟨_, rfl, by show 2 ≤ sizeLine; decide, fun u3 h3 => ?_⟩
      have s3 := same_new h3 (.tup [V.str rm.1, .bl true])
      have e3 : upd G2 u3 (.tup [V.str rm.1, .bl true]) u3 = some (.tup [V.str rm.1, .bl true]) := upd_same
      generalize upd G2 u3 (.tup [V.str rm.1, .bl true]) = G3 at s3 e3 ⊢
      refine ⟨_, rfl, _, rfl, by show 1 ≤ sizeLine; decide, fun u4 h4 => ?_⟩
      have s4 := same_new h4 (.tup [V.str rm.1])
      have e4 : upd G3 u4 (.tup [V.str rm.1]) u4 = some (.tup [V.str rm.1]) := upd_same
      generalize upd G3 u4 (.tup [V.str rm.1]) = G4 at s4 e4 ⊢
      refine ⟨by show 2 ≤ sizeLine; decide, fun u5 h5 => ?_⟩
      have s5 := same_new h5 (.tup [V.str (Str.ofString "none"), .int 1])
      have e5 : upd G4 u5 (.tup [V.str (Str.ofString "none"), .int 1]) u5 = some (.tup [V.str (Str.ofString "none"), .int 1]) := upd_same
      generalize upd G4 u5 (.tup [V.str (Str.ofString "none"), .int 1]) = G5 at s5 e5 ⊢
      refine ⟨by show 7 ≤ sizeLine; decide, fun tq htq => ?_⟩
      have s6 := same_new htq (.tup [V.ref u1, .ref u2, .ref u3, .str rm.1, .non, .ref u4, .ref u5])
      have e6 : upd G5 tq (.tup [V.ref u1, .ref u2, .ref u3, .str rm.1, .non, .ref u4, .ref u5]) tq = some (.tup [V.ref u1, .ref u2, .ref u3, .str rm.1, .non, .ref u4, .ref u5]) := upd_same
      generalize upd G5 tq (.tup [V.ref u1, .ref u2, .ref u3, .str rm.1, .non, .ref u4, .ref u5]) = G6 at s6 e6 ⊢
      have s06 := ((((s1.trans s2).trans s3).trans s4).trans s5).trans s6
      have x6 : ExtN H2 G6 := x5.trans (ExtN.same s06)
      have nShort : ShortD (.str rm.1) := by
        show rm.1.length ≤ 1000
        have := nmr.1.2.1
        omega
      have bads : ∀ (k : Nat) (y : V), ([V.ref u1, .ref u2, .ref u3, .str rm.1, .non, .ref u4, .ref u5] : List V)[k]? = some y → ∃ d, Dp K G6 y d ∧ SmS d ∧ lotOfR R.rooms d = none ∧ showOk d = true := fun k y ey => by
        match k, ey with
        | 0, ey => cases ey; exact ⟨.tuple [.str rm.1, .int 0], .tup (SqT.of ((((((s2.trans s3).trans s4).trans s5).trans s6)) _ _ e1)) (.cons (.str _) (.cons (.int _) .nil)), sm2s nShort trivial, lot_no nd hrm rfl, show_step n7 0⟩
        | 1, ey =>
          cases ey
          refine ⟨.tuple [.str rm.1, .int ((ts.length : Nat) + 1 : Int)], .tup (SqT.of (((((s3.trans s4).trans s5).trans s6)) _ _ e2)) (.cons (.str _) (.cons (.int _) .nil)), sm2s nShort trivial, lot_no nd hrm ?_, show_stepN n7 (by omega)⟩
          show (decide _ && decide _) = false
          rw [Bool.and_eq_false_iff]
          exact .inr (decide_eq_false (by omega))
        | 2, ey => cases ey; exact ⟨.tuple [.str rm.1, .bool true], .tup (SqT.of ((((s4.trans s5).trans s6)) _ _ e3)) (.cons (.str _) (.cons (.bl _) .nil)), sm2s nShort trivial, lot_no nd hrm rfl, show_step n7 5⟩
        | 3, ey => cases ey; exact ⟨.str rm.1, .str _, trivial, lot_miss fun _ _ => rfl, show_step n7 6⟩
        | 4, ey => cases ey; exact ⟨.none, .non, trivial, lot_miss fun _ _ => rfl, show_steps _ (by simp [stepsD])⟩
        | 5, ey => cases ey; exact ⟨.tuple [.str rm.1], .tup (SqT.of ((s5.trans s6) _ _ e4)) (.cons (.str _) .nil), fun x hx => by rw [List.mem_singleton.mp hx]; exact nShort, lot_miss fun _ _ => rfl, show_step n7 7⟩
        | 6, ey => cases ey; exact ⟨.tuple [.str (Str.ofString "none"), .int 1], .tup (SqT.of (s6 _ _ e5)) (.cons (.str _) (.cons (.int _) .nil)), sm2s (by show 4 ≤ 1000; decide) trivial, lot_miss fun r' hr' => st_ne fun z => none7 (by rw [show noneS = r'.1 from z]; exact rh.in7 r' hr'), show_steps _ (by simp [stepsD])⟩
      refine ⟨tq, _, rfl, SqX.tup e6, fun J S W z0 => ?_⟩
      refine for_sq W (fun k σ H' => (∃ o8, σ = [some (.ref m), some (.ref r), some (.ref tb'), o3, o4, o5, o6, some (.str rm.1), o8, o9, none]) ∧ ExtN G6 H' ∧ Tabs T H') ⟨⟨_, rfl⟩, ExtN.refl _, t5.ext s06⟩ (fun k σ H' pv => W.keep (fun o e => by rw [e6] at e; cases e; exact pv.2.1 _ _ e6 notbl) z0) ?_ (fun σ H' pv => by
        obtain ⟨⟨o8', rfl⟩, xe, te⟩ := pv
        exact ⟨⟨_, _, _, _, _, _, _, _, rfl⟩, (x2.trans x6).trans xe, te⟩)
      rintro k σ HA y ey7 ⟨⟨o8', rfl⟩, xA, tA⟩
      obtain ⟨d, dy, sd, hno, sk⟩ := bads k y ey7
      refine ⟨tA, fun HB xB tB => ?_⟩
      obtain ⟨dx, fs, hm, _, f2, _⟩ := hmE ((x2.trans x6).trans (xA.trans xB))
      refine ⟨_, rfl, m, dx, fs, rfl, hm, f2, _, rfl, m, y, d, R, rfl, raE ((x2.trans x6).trans (xA.trans xB)), dp_ext (xA.trans xB) dy, sd, fun l hl => ?_, fun _ dd HC sC ed => ?_⟩
      · rw [hno] at hl; cases hl
      refine told_name ed (dp_ext ((xA.trans xB).trans (ExtN.same sC)) dy) sk fun u1 HD sD e1 => ?_
      obtain ⟨k1, k2, k3, k4⟩ := show3 sk
      refine ⟨_, rfl, y, d, rfl, dp_ext ((xA.trans xB).trans (ExtN.same (sC.trans sD))) dy, k1, k2, k3, k4, by show 2 ≤ sizeLine; decide, fun u2 hu2 => ?_⟩
      have sF := same_new hu2 (.tup [V.str nameS, .str (PyData.shown d)])
      exact rne_told sk (sF _ _ e1) upd_same ⟨_, rfl, iteF ⟨⟨_, rfl⟩, (xA.trans xB).trans (ExtN.same ((sC.trans sD).trans sF)), tB.ext ((sC.trans sD).trans sF)⟩⟩
    rintro σ H2 ⟨⟨o2, o3, o4, o5, o6, o7, o8, o9, rfl⟩, x2, t2⟩
    refine ⟨t2, fun HB xB tB => ?_⟩
    have raB := RmAt.ext ra (x2.trans xB)
    obtain ⟨dx, a, b, c', h0, hrest⟩ := raB
    refine ⟨_, rfl, m, dx, _, rfl, h0, rfl, m, Str.ofString "none", R, rfl, ⟨dx, a, b, c', h0, hrest⟩, fun t et => ?_, fun _ dd HC sC ed => ?_⟩
    · rw [lk_miss fun r' hr' z => none7 (by rw [show noneS = r'.1 from z.symm]; exact rh.in7 r' hr')] at et; cases et
    have sk : showOk (.str (Str.ofString "none")) = true := show_steps _ (by simp [stepsD])
    refine told_name ed (.str _) sk fun u1 HD sD e1 => ?_
    obtain ⟨k1, k2, k3, k4⟩ := show3 sk
    refine ⟨.str (Str.ofString "none"), _, rfl, .str _, k1, k2, k3, k4, by show 2 ≤ sizeLine; decide, fun u2 hu2 => ?_⟩
    have sF := same_new hu2 (.tup [V.str nameS, .str (PyData.shown (.str (Str.ofString "none")))])
    exact req_told sk (sF _ _ e1) upd_same (q _ ((x2.trans xB).trans (ExtN.same ((sC.trans sD).trans sF))) (tB.ext ((sC.trans sD).trans sF)))
end
end R0

namespace R0
open PySem PySem.Spec PyProof.Rows L2 Hb St Sq Ow En Zp RZ Rd Xb Da Wa LamX Lc Ty Gu Sm
/-! ### the same calls, their readings free of the frame -/
section
variable {X : Cx} {P : Program} {w : World} {K : PySem.W.Frag} {mg : Str → Option Value} {base : Heap} {C CR CT eg ec : Addr} {e o : Expr} {es : List Expr} {p pos apos : Pos} {t tk : TA} {ta : TE} {E : XK} {kws : List Keyword}
theorem pe_mkL3 (M : MkR P w K mg base C CR eg ec) (hr : Room 6 X.A) (hx : Passes (L2.CX X.prog X.w) X E) (hg : Gl X "Rooms") (ha : PA X (e :: es) t)
    (he : starEach (e :: es) X.env = (false, eval e X.env) :: starEach es X.env := by rfl) (hpl : (backTo pos (starEach es X.env)).any (·.1) = false := by rfl)
    (h1 : X.prog = P := by rfl) (h2 : X.w = w := by rfl) (h3 : X.K = K := by rfl) (h4 : X.mg = mg := by rfl) (h5 : X.base = base := by rfl) : PE X (.Call (.Name "Rooms" p) (e :: es) [] pos) (tMake C (spInit K C CR) [] E t) := by
  subst h1 h2 h3 h4 h5
  exact pe_mk3 M hr hx hg ha he hpl
theorem pe_mkLK (M : MkR P w K mg base C CR eg ec) (hr : Room 6 X.A) (hx : Passes (L2.CX X.prog X.w) X E) (hg : Gl X "Rooms") (hkw : PK X kws tk)
    (hall : (backToKw pos (keywordEach kws X.env)).all (·.1.isSome) = true := by rfl) (hks : (backToKw pos (keywordEach kws X.env)).filterMap (·.1) = ([("rooms" : Str), "gongs", "calls"] : List Str) := by rfl)
    (hpl : ((backTo pos (starEach [] X.env)).any (·.1) || (backToKw pos (keywordEach kws X.env)).any (·.1.isNone)) = false := by rfl)
    (h1 : X.prog = P := by rfl) (h2 : X.w = w := by rfl) (h3 : X.K = K := by rfl) (h4 : X.mg = mg := by rfl) (h5 : X.base = base := by rfl) : PE X (.Call (.Name "Rooms" p) [] kws pos) (tMakeK C 0 3 (spInit K C CR) (fun vs zs => vs ++ zs) E tNil tk) := by
  subst h1 h2 h3 h4 h5
  exact pe_mkK M hr hx hg hkw hall hks hpl
theorem pe_readL {pl : Sem Bool} (S : SmRd P w K mg base C CR CT) (hr : Room 7 X.A) (hx : Passes (L2.CX X.prog X.w) X E) (he : PE X o ta) (ha : PA X (e :: es) t)
    (hst : starEach (e :: es) X.env = (false, eval e X.env) :: starEach es X.env := by rfl) (hpl : (backTo pos (starEach es X.env)).any (·.1) = false := by rfl)
    (ht : eval (.Call (.Attribute o "read" apos) (e :: es) [] pos) X.env = (do
      let ov ← eval o X.env
      standAt apos.atName
      let (f, first) ← holding [ov] (getMethod ov "read" pl)
      callWith pos f first (backTo pos (starEach (e :: es) X.env)) (backToKw pos (keywordEach [] X.env))) := by rfl)
    (h1 : X.prog = P := by rfl) (h2 : X.w = w := by rfl) (h3 : X.K = K := by rfl) (h4 : X.mg = mg := by rfl) (h5 : X.base = base := by rfl) :
    PE X (.Call (.Attribute o "read" apos) (e :: es) [] pos) (tSMeth C (spRead K C CR CT) (fun _ => E) ta t) := by
  subst h1 h2 h3 h4 h5
  exact pe_read S hr hx he ha hst hpl ht
end
/-! ### all but the deal and the tables stays -/
def KpX (p l : Addr) (H H' : Hp) : Prop := ∀ b o, H b = some o → b ≠ p → b ≠ l → (∀ ps, o ≠ .tbl ps) → H' b = some o
theorem KpX.refl (p l : Addr) (H : Hp) : KpX p l H H := fun _ _ e _ _ _ => e
theorem KpX.trans {p l : Addr} {H H1 H2 : Hp} (a : KpX p l H H1) (b : KpX p l H1 H2) : KpX p l H H2 := fun c o e n m t => b c o (a c o e n m t) n m t
theorem KpX.two {p l : Addr} {H H' : Hp} (k : Kept2 p l H H') : KpX p l H H' := fun b o e n m _ => k b o e n m
theorem KpX.same {p l : Addr} {H H' : Hp} (k : Same H H') : KpX p l H H' := fun b o e _ _ _ => k b o e
theorem KpX.ext {p l : Addr} {H H' : Hp} (k : ExtN H H') : KpX p l H H' := fun b o e _ _ t => k b o e t
theorem DealAt.ext {H H' : Hp} {p l : Addr} (h : DealAt H p l) (x : ExtN H H') : DealAt H' p l := let ⟨ns, b, a, c, r⟩ := h; ⟨ns, b, x _ _ a notbl_l, x _ _ c notbl_l, r⟩
theorem DealAt.np {H : Hp} {p l a : Addr} {o : HO} (d : DealAt H p l) (e : H a = some o) (n : ∀ xs, o ≠ .lst xs) : a ≠ p ∧ a ≠ l := by
  obtain ⟨ns, b, h1, h2, _⟩ := d
  exact ⟨fun z => (by rw [z, h1] at e; exact n _ (Option.some.inj e).symm), fun z => (by rw [z, h2] at e; exact n _ (Option.some.inj e).symm)⟩
theorem sqtKp {K : PySem.W.Frag} {p l a : Addr} {H H' : Hp} {xs : List V} (d : DealAt H p l) (k : KpX p l H H') (h : SqT K H a xs) : SqT K H' a xs := by
  rcases h with (h | ⟨o, h⟩) | h
  · have n := d.np h fun _ z => by cases z
    exact .inl (.inl (k _ _ h n.1 n.2 fun ps z => by cases z))
  · have n := d.np h fun _ z => by cases z
    exact .inl (.inr ⟨o, k _ _ h n.1 n.2 fun ps z => by cases z⟩)
  · exact .inr h
mutual
theorem dp_kp {K : PySem.W.Frag} {p l : Addr} {H H' : Hp} (dl : DealAt H p l) (k : KpX p l H H') : ∀ {d : PyData} {v : V}, noL d = true → Dp K H v d → Dp K H' v d
  | _, _, _, .non => .non
  | _, _, _, .bl b => .bl b
  | _, _, _, .int i => .int i
  | _, _, _, .str x => .str x
  | _, _, n, .lst h a => by simp [noL] at n
  | _, _, n, .tup h a => .tup (sqtKp dl k h) (dpa_kp dl k (by simpa [noL] using n) a)
theorem dpa_kp {K : PySem.W.Frag} {p l : Addr} {H H' : Hp} (dl : DealAt H p l) (k : KpX p l H H') : ∀ {ds : List PyData} {xs : List V}, noLs ds = true → DpAll K H xs ds → DpAll K H' xs ds
  | _, _, _, .nil => .nil
  | _, _, n, .cons h t => .cons (dp_kp dl k (by simp only [noLs, Bool.and_eq_true] at n; exact n.1) h) (dpa_kp dl k (by simp only [noLs, Bool.and_eq_true] at n; exact n.2) t)
end
/-- v holds d, wherever all but the deal and the tables is as in H -/
def Nd (K : PySem.W.Frag) (p l : Addr) (H : Hp) (v : V) (d : PyData) : Prop := ∀ H', KpX p l H H' → Dp K H' v d
section
variable {K : PySem.W.Frag} {p l : Addr} {H H' : Hp} {v : V} {d : PyData}
theorem Nd.on (n : Nd K p l H v d) (k : KpX p l H H') : Nd K p l H' v d := fun H2 k2 => n H2 (k.trans k2)
theorem Nd.dp (n : Nd K p l H v d) : Dp K H v d := n H (KpX.refl _ _ _)
theorem nd_non : Nd K p l H .non .none := fun _ _ => .non
theorem nd_int (i : Int) : Nd K p l H (.int i) (.int i) := fun _ _ => .int i
theorem nd_str (x : Str) : Nd K p l H (.str x) (.str x) := fun _ _ => .str x
theorem nd_of (dl : DealAt H p l) (n : noL d = true) (h : Dp K H v d) : Nd K p l H v d := fun _ k => dp_kp dl k n h
theorem nd_all : ∀ {xs : List V} {ds : List PyData}, All2 (Nd K p l H) xs ds → ∀ H', KpX p l H H' → DpAll K H' xs ds
  | _, _, .nil, _, _ => .nil
  | _, _, .cons h t, _, k => .cons (h _ k) (nd_all t _ k)
theorem nd_tup {a : Addr} {xs : List V} {ds : List PyData} (dl : DealAt H p l) (e : H a = some (.tup xs)) (h : All2 (Nd K p l H) xs ds) : Nd K p l H (.ref a) (.tuple ds) := fun H' k => by
  have n := dl.np e fun _ z => by cases z
  exact .tup (SqT.of (k _ _ e n.1 n.2 notbl)) (nd_all h _ k)
theorem nd_lst {a : Addr} {xs : List V} {ds : List PyData} (n : a ≠ p ∧ a ≠ l) (e : H a = some (.lst xs)) (h : All2 (Nd K p l H) xs ds) : Nd K p l H (.ref a) (.list ds) := fun H' k => .lst (SqL.of (k _ _ e n.1 n.2 notbl_l)) (nd_all h _ k)
theorem nd_at {α : Type} {q : Addr} {f : α → PyData} {xs : List α} (dl : DealAt H p l) (n : q ≠ p ∧ q ≠ l) (nf : ∀ a, noL (f a) = true) (h : ListAt K H q f xs) : Nd K p l H (.ref q) (.list (xs.map f)) := by
  obtain ⟨ys, e, al⟩ := h
  exact nd_lst n e (all2_mapR (al.imp fun _ _ g => nd_of dl (nf _) g))
end
/-! ### what the law hands -/
theorem lots7_ok : ∀ t ∈ lots7, lotD (lD t) = true := by decide +kernel
theorem taleD_law {t : Tale} (h : ∀ a ∈ t, a ∈ lots7) : taleD (tD t) = true := by
  show (t.map lD).all lotD = true
  rw [List.all_map, List.all_eq_true]
  exact fun a ha => lots7_ok a (h a ha)
theorem RHalf.ar {rs : List Rm} (h : RHalf rs) : arD (.list (rs.map rmD)) = true := by
  have e : (rs.map rmD).map nmOf = rs.map (·.1) := by rw [List.map_map]; rfl
  show (true && (decide (1 ≤ (rs.map rmD).length ∧ (rs.map rmD).length ≤ 3) && ((rs.map rmD).all rmlD && (decide ((rs.map rmD).map nmOf).Nodup && (rs.map rmD).all fun e => taleD (tlOf e))))) = true
  rw [List.length_map, decide_eq_true h.nr, e, decide_eq_true h.nd, List.all_map, List.all_map]
  have h1 : rs.all (rmlD ∘ rmD) = true := List.all_eq_true.mpr fun r hr => (nms7_nm _ (h.in7 r hr)).1
  have h2 : rs.all ((fun e => taleD (tlOf e)) ∘ rmD) = true := List.all_eq_true.mpr fun r hr => taleD_law (h.tl r hr).2
  rw [h1, h2]; rfl
theorem many_rm (rs : List Rm) : manyD (.list (rs.map rmD)) = rs.map fun r => (r.1, (r.2.length : Int)) := by
  show (rs.map rmD).map _ = _
  rw [List.map_map]
  refine List.map_congr_left fun r _ => ?_
  show (r.1, (((r.2.map lD).length : Nat) : Int)) = _
  rw [List.length_map]
theorem lk_len {rs : List Rm} (x : Str) : (rs.map fun r => (r.1, (r.2.length : Int))).lookup x = (rs.lookup x).map fun t => (t.length : Int) := by
  induction rs with
  | nil => rfl
  | cons a rs ih =>
    rw [List.map_cons, List.lookup_cons, List.lookup_cons]
    cases x == a.1 with
    | true => rfl
    | false => exact ih
theorem mem_steps {rs : List Rm} {s : Stp} (h : s ∈ stepsR rs) : ∃ r ∈ rs, s.1 = r.1 ∧ 1 ≤ s.2 ∧ s.2 ≤ r.2.length := by
  obtain ⟨r, hr, hs⟩ := List.mem_flatMap.mp h
  obtain ⟨i, hi, rfl⟩ := List.mem_map.mp hs
  have := List.mem_range.mp hi
  exact ⟨r, hr, rfl, by show 1 ≤ (i : Int) + 1; omega, by show (i : Int) + 1 ≤ _; omega⟩
theorem stB_law {rs : List Rm} (h : RHalf rs) {s : Stp} (hs : s ∈ stepsR rs) : stB (manyD (.list (rs.map rmD))) (stD s) = true := by
  obtain ⟨r, hr, e, i1, i2⟩ := mem_steps hs
  rw [many_rm]
  show (nmB s.1 && (match (rs.map fun r => (r.1, (r.2.length : Int))).lookup s.1 with
    | some n => decide (1 ≤ s.2) && decide (s.2 ≤ n)
    | none => false)) = true
  rw [lk_len, e, lk_hit h.nd hr, (nms7_nm _ (h.in7 r hr)).1]
  show (true && (decide (1 ≤ s.2) && decide (s.2 ≤ (r.2.length : Int)))) = true
  rw [decide_eq_true i1, decide_eq_true i2]; rfl
theorem jnB_law {rs : List Rm} (h : RHalf rs) {j : Jn} (h1 : j.1 ∈ stepsR rs) (h2 : j.2 ∈ stepsR rs) (ne : j.1.1 ≠ j.2.1) : jnB (manyD (.list (rs.map rmD))) (jnD j) = true := by
  show (stB _ (stD j.1) && (stB _ (stD j.2) && decide (j.1.1 ≠ j.2.1))) = true
  rw [stB_law h h1, stB_law h h2, decide_eq_true ne]; rfl
theorem jsB_law {rs : List Rm} (h : RHalf rs) {gs : List Jn} (g : ∀ j ∈ gs, j.1 ∈ stepsR rs ∧ j.2 ∈ stepsR rs ∧ j.1.1 ≠ j.2.1) : jsB (.list (rs.map rmD)) (.list (gs.map jnD)) = true := by
  show (true && (gs.map jnD).all (jnB (manyD (.list (rs.map rmD))))) = true
  rw [List.all_map]
  have : gs.all (jnB (manyD (.list (rs.map rmD))) ∘ jnD) = true := List.all_eq_true.mpr fun j hj => jnB_law h (g j hj).1 (g j hj).2.1 (g j hj).2.2
  rw [this]; rfl
theorem arT (x : List PyData) : arD (.tuple x) = arD (.list x) := rfl
theorem jsT1 (x : List PyData) (d : PyData) : jsB (.tuple x) d = jsB (.list x) d := rfl
theorem jsT2 (d : PyData) (x : List PyData) : jsB d (.tuple x) = jsB d (.list x) := rfl
theorem err_law {rs : List Rm} {gs cs : List Jn} (h : RLaw rs gs cs) : rmErr (.list (rs.map rmD)) (.list (gs.map jnD)) (.list (cs.map jnD)) = none := by
  unfold rmErr
  rw [h.half.ar, jsB_law h.half h.gj, jsB_law h.half h.cj]; rfl
theorem er_0 {dr dg dc : PyData} (h : arD dr = false) : rmErr dr dg dc = some 0 := by
  unfold rmErr
  rw [if_pos h]
theorem er_1 {dr dg dc : PyData} (h : arD dr = true) (h1 : jsB dr dg = false) : rmErr dr dg dc = some 1 := by
  unfold rmErr
  rw [h, if_neg (by decide), if_pos h1]
theorem er_2 {dr dg dc : PyData} (h : arD dr = true) (h1 : jsB dr dg = true) (h2 : jsB dr dc = false) : rmErr dr dg dc = some 2 := by
  unfold rmErr
  rw [h, h1, if_neg (by decide), if_neg (by decide), if_pos h2]
theorem sm_rms {rs : List Rm} (h : RHalf rs) : SmR (.list (rs.map rmD)) := fun e he => by
  obtain ⟨r, hr, rfl⟩ := List.mem_map.mp he
  refine smE_rm (nms7_nm _ (h.in7 r hr)).1 (by have := (h.tl r hr).1; omega) fun l hl => ?_
  have a := (h.tl r hr).2 l hl
  have b := lots7_nm l a
  exact ⟨by omega, lots7_nmB l a⟩
where lots7_nmB : ∀ l ∈ lots7, ∀ x ∈ l, nmB x = true := by decide +kernel
theorem nm_of_step {rs : List Rm} (h : RHalf rs) {s : Stp} (hs : s ∈ stepsR rs) : nmB s.1 = true := by
  obtain ⟨r, hr, e, _⟩ := mem_steps hs
  rw [e]; exact (nms7_nm _ (h.in7 r hr)).1
theorem sm_jns {rs : List Rm} (h : RHalf rs) {gs : List Jn} (n : gs.length ≤ 1000) (g : ∀ j ∈ gs, j.1 ∈ stepsR rs ∧ j.2 ∈ stepsR rs ∧ j.1.1 ≠ j.2.1) : SmJs (.list (gs.map jnD)) :=
  ⟨by show (gs.map jnD).length ≤ 1000; rw [List.length_map]; exact n, fun e he => by
    obtain ⟨j, hj, rfl⟩ := List.mem_map.mp he
    exact smJ_jn (nm_of_step h (g j hj).1) (nm_of_step h (g j hj).2.1)⟩
end R0

namespace R0
open PySem PySem.Spec PyProof.Rows L2 Hb St Sq Ow En Zp RZ Rd Xb Da Wa LamX Lc Ty Gu Sm
/-! ### written data, read -/
inductive CD : V → PyData → Prop
  | non : CD .non .none
  | int (i : Int) : CD (.int i) (.int i)
  | str (x : Str) : CD (.str x) (.str x)
theorem CD.nd {K : PySem.W.Frag} {p l : Addr} {H : Hp} {v : V} {d : PyData} (h : CD v d) : Nd K p l H v d := by
  cases h with
  | non => exact nd_non
  | int i => exact nd_int i
  | str x => exact nd_str x
mutual
inductive LtE (K : PySem.W.Frag) (p l : Addr) (H0 : Hp) (σ : L2.St) : TE → PyData → Prop
  | c {v : V} {d : PyData} : CD v d → LtE K p l H0 σ (tC v) d
  | var {i : Nat} {v : V} {d : PyData} : σ[i]? = some (some v) → Nd K p l H0 v d → LtE K p l H0 σ (tVar i) d
  | lst {ta : TA} {ds : List PyData} : LtA K p l H0 σ ta ds → ds.length ≤ 100 → LtE K p l H0 σ (tLst ta) (.list ds)
  | tup {ta : TA} {ds : List PyData} : LtA K p l H0 σ ta ds → ds.length ≤ 100 → LtE K p l H0 σ (tTup ta) (.tuple ds)
inductive LtA (K : PySem.W.Frag) (p l : Addr) (H0 : Hp) (σ : L2.St) : TA → List PyData → Prop
  | nil : LtA K p l H0 σ tNil []
  | cons {te : TE} {ta : TA} {d : PyData} {ds : List PyData} : LtE K p l H0 σ te d → LtA K p l H0 σ ta ds → LtA K p l H0 σ (tCons te ta) (d :: ds)
end
section
variable {K : PySem.W.Frag} {p l : Addr} {H0 : Hp} {σ : L2.St}
mutual
theorem lt_e : ∀ {te : TE} {d : PyData}, LtE K p l H0 σ te d → ∀ {H : Hp} {Q : VK}, KpX p l H0 H → DealAt H p l → (∀ v H', Same H H' → Nd K p l H' v d → Q v H') → te σ H Q
  | _, _, .c h, H, Q, k, dl, q => q _ H (Same.refl _) h.nd
  | _, _, .var e n, H, Q, k, dl, q => ⟨_, e, q _ H (Same.refl _) (n.on k)⟩
  | _, _, .lst ha ln, H, Q, k, dl, q => lt_a ha k dl fun vs H1 s al => ⟨Nat.le_trans (by rw [al.len]; exact ln) (by rw [sizeLine_eq]; decide), fun a h =>
      q _ _ (s.trans (same_new h _)) (nd_lst (deal_ne (dl.same s) h) upd_same (al.imp fun _ _ n => n.on (KpX.same (same_new h _))))⟩
  | _, _, .tup ha ln, H, Q, k, dl, q => lt_a ha k dl fun vs H1 s al => ⟨Nat.le_trans (by rw [al.len]; exact ln) (by rw [sizeLine_eq]; decide), fun a h =>
      q _ _ (s.trans (same_new h _)) (nd_tup ((dl.same s).same (same_new h _)) upd_same (al.imp fun _ _ n => n.on (KpX.same (same_new h _))))⟩
theorem lt_a : ∀ {ta : TA} {ds : List PyData}, LtA K p l H0 σ ta ds → ∀ {H : Hp} {Q : List V → Hp → Prop}, KpX p l H0 H → DealAt H p l → (∀ vs H', Same H H' → All2 (Nd K p l H') vs ds → Q vs H') → ta σ H Q
  | _, _, .nil, H, Q, k, dl, q => q [] H (Same.refl _) .nil
  | _, _, .cons he ha, H, Q, k, dl, q => lt_e he k dl fun v H1 s1 n => lt_a ha (k.trans (KpX.same s1)) (dl.same s1) fun vs H2 s2 al => q _ _ (s1.trans s2) (.cons (n.on (KpX.same s2)) al)
end
theorem lt_top {ta : TA} {ds : List PyData} (ha : LtA K p l H0 σ ta ds) (ln : ds.length ≤ 100) {H : Hp} {Q : VK} (k : KpX p l H0 H) (dl : DealAt H p l) (q : ∀ a xs H', Same H H' → H a = none → H' a = some (.lst xs) → All2 (Nd K p l H') xs ds → Q (.ref a) H') : tLst ta σ H Q :=
  lt_a ha k dl fun vs H1 s al => ⟨Nat.le_trans (by rw [al.len]; exact ln) (by rw [sizeLine_eq]; decide), fun a h =>
      q a vs _ (s.trans (same_new h _)) (none_back s h) upd_same (al.imp fun _ _ n => n.on (KpX.same (same_new h _)))⟩
end
theorem lt_seq {K : PySem.W.Frag} {p l : Addr} {H0 : Hp} {σ : L2.St} {ta : TA} {ds : List PyData} {g : TG} {r : TS} {D : Ends} {H : Hp} (ha : LtA K p l H0 σ ta ds) (ln : ds.length ≤ 100) (k : KpX p l H0 H) (dl : DealAt H p l) (q : ∀ a xs H', Same H H' → H a = none → H' a = some (.lst xs) → All2 (Nd K p l H') xs ds → g (.ref a) σ H' (r D)) : tSeq (tAsg (tLst ta) g) r D σ H := by
  show tLst ta σ H (fun x H1 => g x σ H1 (r D))
  exact lt_top ha ln k dl q
theorem cat_nd {K : PySem.W.Frag} {p l : Addr} {a b : Addr} {xs ys : List V} {H : Hp} {Q : VK} {ds es : List PyData} (e1 : H a = some (.lst xs)) (e2 : H b = some (.lst ys)) (a1 : All2 (Nd K p l H) xs ds) (a2 : All2 (Nd K p l H) ys es) (ln : ds.length + es.length ≤ 1000)
    (q : ∀ c H', Same H H' → H c = none → H' c = some (.lst (xs ++ ys)) → All2 (Nd K p l H') (xs ++ ys) (ds ++ es) → Q (.ref c) H') : rCat (.ref a) (.ref b) H Q :=
  ⟨a, b, xs, ys, rfl, rfl, e1, e2, by have := a1.len; have := a2.len; rw [sizeLine_eq]; omega, fun c hc => q c _ (same_new hc _) hc upd_same ((a1.imp fun _ _ n => n.on (KpX.same (same_new hc _))).app (a2.imp fun _ _ n => n.on (KpX.same (same_new hc _))))⟩
theorem rd_mk {K : PySem.W.Frag} {C CR x dx : Addr} {vs : List V} {vr vg vc : V} {dr dg dc : PyData} {H : Hp} {Q : VK} {E : XK} (hx : H x = none) (hd : H dx = none) (ne : dx ≠ x) (ev : vs = [.ref x, vr, vg, vc]) (dvr : Dp K H vr dr) (dvg : Dp K H vg dg) (dvc : Dp K H vc dc) (smr : SmR dr) (smg : SmJs dg) (smc : SmJs dc)
    (q : rmErr dr dg dc = none → ∀ H', Same H H' → RmAt K C H' x (itemsD dr) (itemsD dg) (itemsD dc) → Q .non H') (qe : ∀ k : Nat, rmErr dr dg dc = some k → ∀ dd H', Same H H' → H' dd = some (errH k) → E (.ref CR) (some dd) H') :
    spInit K C CR vs (upd (upd H dx (.own x)) x (.ins C dx [])) Q E := by
  have s1 : Same H (upd (upd H dx (.own x)) x (.ins C dx [])) := (same_new hd (.own x)).trans (same_new (by rw [upd_ne ne.symm]; exact hx) _)
  refine ⟨x, dx, vr, vg, vc, dr, dg, dc, ev, upd_same, dp_same s1 dvr, dp_same s1 dvg, dp_same s1 dvc, smr, smg, smc, fun no H' k r => q no H' (fun b o e => ?_) r, fun k ek dd H' s e => qe k ek dd H' (s1.trans s) e⟩
  exact k b o (s1 b o e) (ne_of_none e hx)
theorem nx_mk {a c d : L2.St → Hp → Prop} {b : VK} {σ : L2.St} {H : Hp} (h : a σ H) : Ends.nx { nx := a, rt := b, bk := c, ct := d } σ H := h
/-- x = x + [..] -/
theorem cat_seq {K : PySem.W.Frag} {p l : Addr} {H0 : Hp} {σ : L2.St} {ta : TA} {i : Nat} {a : Addr} {xs : List V} {ds es : List PyData} {g : TG} {r : TS} {D : Ends} {H : Hp} (ei : σ[i]? = some (some (.ref a))) (ha : LtA K p l H0 σ ta es) (ln : es.length ≤ 100) (k : KpX p l H0 H) (dl : DealAt H p l) (e1 : H a = some (.lst xs)) (a1 : All2 (Nd K p l H) xs ds) (l2 : ds.length ≤ 100)
    (q : ∀ c ys H', Same H H' → H c = none → H' c = some (.lst (xs ++ ys)) → All2 (Nd K p l H') (xs ++ ys) (ds ++ es) → g (.ref c) σ H' (r D)) : tSeq (tAsg (tOp rCat (tVar i) (tLst ta)) g) r D σ H := by
  refine ⟨_, ei, ?_⟩
  show tLst ta σ H (fun y H2 => rCat (.ref a) y H2 fun x H3 => g x σ H3 (r D))
  exact lt_top ha ln k dl fun b ys H2 s2 hb e2 a2 => cat_nd (s2 _ _ e1) e2 (a1.imp fun _ _ n => n.on (KpX.same s2)) a2 (by omega) fun c H3 s3 hc e3 a3 => q c ys H3 (s2.trans s3) (none_back s2 hc) e3 a3
/-- the second operand alone -/
theorem cat_top {K : PySem.W.Frag} {p l : Addr} {H0 : Hp} {σ : L2.St} {ta : TA} {i : Nat} {a : Addr} {xs : List V} {ds es : List PyData} {Q : VK} {H : Hp} (ei : σ[i]? = some (some (.ref a))) (ha : LtA K p l H0 σ ta es) (ln : es.length ≤ 100) (k : KpX p l H0 H) (dl : DealAt H p l) (e1 : H a = some (.lst xs)) (a1 : All2 (Nd K p l H) xs ds) (l2 : ds.length ≤ 100)
    (q : ∀ c ys H', Same H H' → H c = none → H' c = some (.lst (xs ++ ys)) → All2 (Nd K p l H') (xs ++ ys) (ds ++ es) → Q (.ref c) H') : tOp rCat (tVar i) (tLst ta) σ H Q := by
  refine ⟨_, ei, ?_⟩
  show tLst ta σ H (fun y H2 => rCat (.ref a) y H2 Q)
  exact lt_top ha ln k dl fun b ys H2 s2 hb e2 a2 => cat_nd (s2 _ _ e1) e2 (a1.imp fun _ _ n => n.on (KpX.same s2)) a2 (by omega) fun c H3 s3 hc e3 a3 => q c ys H3 (s2.trans s3) (none_back s2 hc) e3 a3
/-- x = pick(deal, y + [..]) -/
theorem pick_cat {K : PySem.W.Frag} {p l : Addr} {H0 : Hp} {σ : L2.St} {ta : TA} {i j : Nat} {a : Addr} {xs : List V} {ds es : List PyData} {g : TG} {r : TS} {D : Ends} {H : Hp} (ej : σ[j]? = some (some (.ref p))) (ei : σ[i]? = some (some (.ref a))) (ha : LtA K p l H0 σ ta es) (ln : es.length ≤ 100) (k : KpX p l H0 H) (dl : DealAt H p l) (e1 : H a = some (.lst xs)) (a1 : All2 (Nd K p l H) xs ds) (l2 : 1 ≤ ds.length ∧ ds.length ≤ 100)
    (q : ∀ v d H1 H', d ∈ ds ++ es → Same H H1 → Kept2 p l H1 H' → DealAt H1 p l → DealAt H' p l → Nd K p l H' v d → g v σ H' (r D)) : tSeq (tAsg (tCall (spPick K) [] E0 (tCons (tVar j) (tCons (tOp rCat (tVar i) (tLst ta)) tNil))) g) r D σ H := by
  refine ⟨_, ej, ?_⟩
  show tOp rCat (tVar i) (tLst ta) σ H (fun y H2 => spPick K [.ref p, y] H2 (fun x H3 => g x σ H3 (r D)) E0)
  refine cat_top ei ha ln k dl e1 a1 l2.2 fun c ys H2 s2 hc e2 a2 => ?_
  have n := deal_ne dl hc
  have le := a2.len
  rw [List.length_append (as := ds)] at le
  exact ⟨p, l, c, _, rfl, dl.same s2, fun H' k => SqX.lst (k _ _ e2 n.1 n.2), ⟨by omega, by omega⟩, fun x H3 hx k3 d3 => by
    obtain ⟨d, hd, nd⟩ := all2_memL a2 hx
    exact q x d H2 H3 hd s2 k3 (dl.same s2) d3 (nd.on (KpX.two k3))⟩
/-- x = pick(deal, y) -/
theorem pick_seq {K : PySem.W.Frag} {p l : Addr} {σ : L2.St} {i j : Nat} {a : Addr} {xs : List V} {ds : List PyData} {g : TG} {r : TS} {D : Ends} {H : Hp} (ej : σ[j]? = some (some (.ref p))) (ei : σ[i]? = some (some (.ref a))) (dl : DealAt H p l) (n : a ≠ p ∧ a ≠ l) (e1 : H a = some (.lst xs)) (a1 : All2 (Nd K p l H) xs ds) (l2 : 1 ≤ ds.length ∧ ds.length ≤ 100)
    (q : ∀ v d H', d ∈ ds → Kept2 p l H H' → DealAt H' p l → Nd K p l H' v d → g v σ H' (r D)) : tSeq (tAsg (tCall (spPick K) [] E0 (tCons (tVar j) (tCons (tVar i) tNil))) g) r D σ H := by
  have le := a1.len
  exact ⟨_, ej, _, ei, p, l, a, _, rfl, dl, fun H' k => SqX.lst (k _ _ e1 n.1 n.2), ⟨by omega, by omega⟩, fun x H3 hx k3 d3 => by
    obtain ⟨d, hd, nd⟩ := all2_memL a1 hx
    exact q x d H3 hd k3 d3 (nd.on (KpX.two k3))⟩
/-! ### what no rooms are -/
def badA (n : Str) : List PyData := [.list [], .tuple [], .none, .str n, .int 5, .list [.tuple [.str n]], .list [.tuple [.str (Str.ofString "A"), .tuple []]], .list [.tuple [.str n, .tuple [.tuple []]]], .list [.tuple [.str n, .tuple [.tuple [.str (Str.ofString "dong"), .str (Str.ofString "ding")]]]], .list [.tuple [.str n, .str (Str.ofString "ding")]]]
def badB (n : Str) : List PyData := [.list [.tuple [.str n, .tuple [.tuple [.str (Str.ofString "ding"), .str (Str.ofString "ding")]]]], .list [.tuple [.str n, .tuple []], .tuple [.str n, .tuple []]], .list [.tuple [.str n, .tuple [.tuple [.str (Str.ofString "ding")], .none]]], .list [.tuple [.str (Str.ofString ""), .tuple []]]]
def badC (n : Str) : List PyData := [.list [.tuple [.str n, .tuple [.str (Str.ofString "ding")]]], .list [.tuple [.str (Str.ofString "toolongnm"), .tuple []]], .list [.tuple [.str (Str.ofString "a"), .tuple []], .tuple [.str (Str.ofString "b"), .tuple []], .tuple [.str (Str.ofString "c"), .tuple []], .tuple [.str (Str.ofString "d"), .tuple []]], .list [.tuple [.str n, .tuple [], .tuple []]]]
def badD (n : Str) : List PyData := [.list [.list [.str n, .tuple []]], .list [.tuple [.str n, .list [.tuple [.str (Str.ofString "ding")]]]], .list [.tuple [.str n, .tuple [.list [.str (Str.ofString "ding")]]]]]
def badRooms (n : Str) : List PyData := badA n ++ badB n ++ badC n ++ badD n
def shortD : PyData → Bool
  | .str x => decide (x.length ≤ 1000)
  | _ => true
theorem short_ok {d : PyData} (h : shortD d = true) : ShortD d := by
  cases d with
  | str x => show x.length ≤ 1000; exact of_decide_eq_true h
  | _ => trivial
def sm1B : PyData → Bool
  | .tuple ds => decide (ds.length ≤ 1000) && ds.all shortD
  | _ => true
theorem sm1_ok {d : PyData} (h : sm1B d = true) : Sm1 d := by
  cases d with
  | tuple ds =>
    have h : (decide (ds.length ≤ 1000) && ds.all shortD) = true := h
    rw [Bool.and_eq_true, decide_eq_true_eq, List.all_eq_true] at h
    exact ⟨h.1, fun x hx => short_ok (h.2 x hx)⟩
  | _ => trivial
def sm2B : PyData → Bool
  | .tuple ds => decide (ds.length ≤ 1000) && ds.all sm1B
  | _ => true
theorem sm2_ok {d : PyData} (h : sm2B d = true) : Sm2 d := by
  cases d with
  | tuple ds =>
    have h : (decide (ds.length ≤ 1000) && ds.all sm1B) = true := h
    rw [Bool.and_eq_true, decide_eq_true_eq, List.all_eq_true] at h
    exact ⟨h.1, fun x hx => sm1_ok (h.2 x hx)⟩
  | _ => trivial
def smEB : PyData → Bool
  | .tuple ds => ds.all fun x => shortD x && sm2B x
  | _ => true
theorem smR_ok {d : PyData} (h : (itemsD d).all smEB = true) : SmR d := fun e he => by
  have h := List.all_eq_true.mp h e he
  cases e with
  | tuple ds =>
    intro x hx
    have := List.all_eq_true.mp (show ds.all (fun x => shortD x && sm2B x) = true from h) x hx
    rw [Bool.and_eq_true] at this
    exact ⟨short_ok this.1, sm2_ok this.2⟩
  | _ => trivial
theorem bad_rooms : ∀ n ∈ nms7, ∀ d ∈ badRooms n, arD d = false ∧ (itemsD d).all smEB = true := by decide +kernel
/-! ### what no joins are -/
def badJ0 (n : Str) (o : PyData) : List PyData := [.int 5, .none, .str (Str.ofString "a"), .list [.int 5], .list [.tuple [o]], .list [.tuple [o, o]], .list [.tuple [o, .tuple [.str (Str.ofString "none"), .int 1]]], .list [.tuple [o, .tuple [.str n, .int 0]]], .list [.tuple [o, o, o]]]
def badJ1 (n : Str) (o : PyData) : List PyData := [.list [.tuple [.none, o]], .list [.tuple [.str (Str.ofString "a"), .str (Str.ofString "b")]], .list [.tuple [o, .int 1]], .list [.list [o, o]]]
def badJoins (n : Str) (o : PyData) : List PyData := badJ0 n o ++ badJ1 n o
theorem stB_none {rs : List Rm} (h : RHalf rs) (b : PyData) : stB (manyD (.list (rs.map rmD))) (.tuple [.str (Str.ofString "none"), b]) = false := by
  rw [many_rm]
  show (nmB (Str.ofString "none") && (match (rs.map fun r => (r.1, (r.2.length : Int))).lookup (Str.ofString "none") with
    | some n => cntD b && (match b with
      | .int i => decide (i ≤ n)
      | _ => false)
    | none => false)) = false
  rw [lk_len, lk_miss fun r' hr' z => none7 (by rw [show noneS = r'.1 from z.symm]; exact h.in7 r' hr')]
  exact Bool.and_false _
theorem stB_zero (ms : List (Str × Int)) (n : Str) : stB ms (.tuple [.str n, .int 0]) = false := by
  show (nmB n && (match ms.lookup n with
    | some n => cntD (.int 0) && decide ((0 : Int) ≤ n)
    | none => false)) = false
  cases ms.lookup n with
  | none => exact Bool.and_false _
  | some k => exact Bool.and_false _
theorem js_one {dr : PyData} {x : PyData} (h : jnB (manyD dr) x = false) : jsB dr (.list [x]) = false := by
  show (true && ([x].all (jnB (manyD dr)))) = false
  simp [h]
theorem bad_joins {rs : List Rm} (h : RHalf rs) (n : Str) (o : PyData) : ∀ d ∈ badJoins n o, jsB (.list (rs.map rmD)) d = false := by
  intro d hd
  unfold badJoins badJ0 badJ1 at hd
  simp only [List.cons_append, List.nil_append, List.mem_cons, List.mem_nil_iff, or_false] at hd
  rcases hd with rfl | rfl | rfl | rfl | rfl | rfl | rfl | rfl | rfl | rfl | rfl | rfl | rfl
  · rfl
  · rfl
  · rfl
  · exact js_one rfl
  · exact js_one rfl
  · refine js_one ?_
    show (stB _ o && (stB _ o && decide (nmOf o ≠ nmOf o))) = false
    simp
  · refine js_one ?_
    show (stB _ o && (stB _ _ && _)) = false
    rw [stB_none h, Bool.false_and, Bool.and_false]
  · refine js_one ?_
    show (stB _ o && (stB _ _ && _)) = false
    rw [stB_zero, Bool.false_and, Bool.and_false]
  · exact js_one rfl
  · exact js_one rfl
  · exact js_one rfl
  · refine js_one ?_
    show (stB _ o && (false && _)) = false
    rw [Bool.false_and, Bool.and_false]
  · exact js_one rfl
theorem js_snoc {dr : PyData} {ds : List PyData} {x : PyData} (h : jnB (manyD dr) x = false) : jsB dr (.list (ds ++ [x])) = false := by
  show (true && ((ds ++ [x]).all (jnB (manyD dr)))) = false
  simp [h]
theorem jn_same (ms : List (Str × Int)) (o : PyData) : jnB ms (.tuple [o, o]) = false := by
  show (stB _ o && (stB _ o && decide (nmOf o ≠ nmOf o))) = false
  simp
theorem jn_non (ms : List (Str × Int)) (o : PyData) : jnB ms (.tuple [o, .none]) = false := by
  show (stB _ o && (false && _)) = false
  rw [Bool.false_and, Bool.and_false]
theorem sm_snoc {ds : List PyData} {x : PyData} (h : SmJs (.list ds)) (n : ds.length < 1000) (hx : SmJ x) : SmJs (.tuple (ds ++ [x])) :=
  ⟨by show (ds ++ [x]).length ≤ 1000; rw [List.length_append]; exact n, fun y hy => (List.mem_append.mp hy).elim (h.2 y) fun z => by rw [List.mem_singleton.mp z]; exact hx⟩
theorem smJs_nil : SmJs (.tuple []) := ⟨by show 0 ≤ 1000; decide, fun y hy => nomatch hy⟩
theorem tabs_two {T : List (Addr × Str)} {p l : Addr} {H H' : Hp} (t : Tabs T H) (d : DealAt H p l) (k : Kept2 p l H H') : Tabs T H' := fun y m => by
  obtain ⟨ps, h1, h2, h3⟩ := t y m
  have n1 := d.np h1 fun _ z => by cases z
  refine ⟨ps, k _ _ h1 n1.1 n1.2, h2, fun pos cv e => ?_⟩
  obtain ⟨c, e1, e2⟩ := h3 pos cv e
  have n2 := d.np e2 fun _ z => by unfold CodeO at z; cases z
  exact ⟨c, e1, k _ _ e2 n2.1 n2.2⟩
theorem smJs_bad {n : Str} {s : Stp} (hn : n.length ≤ 1000) (hs : s.1.length ≤ 1000) : ∀ d ∈ badJoins n (stD s), SmJs d := by
  intro d hd
  have so : SmS (stD s) := sm2s hs trivial
  unfold badJoins badJ0 badJ1 at hd
  simp only [List.cons_append, List.nil_append, List.mem_cons, List.mem_nil_iff, or_false] at hd
  have one : ∀ x, SmJ x → SmJs (.list [x]) := fun x h => ⟨by show 1 ≤ 1000; decide, fun y hy => by rw [List.mem_singleton.mp hy]; exact h⟩
  have tw : ∀ ds : List PyData, (∀ x ∈ ds, SmS x) → SmJ (.tuple ds) := fun _ h => h
  rcases hd with rfl | rfl | rfl | rfl | rfl | rfl | rfl | rfl | rfl | rfl | rfl | rfl | rfl
  · exact ⟨by show 0 ≤ 1000; decide, fun y hy => nomatch hy⟩
  · exact ⟨by show 0 ≤ 1000; decide, fun y hy => nomatch hy⟩
  · exact ⟨by show 0 ≤ 1000; decide, fun y hy => nomatch hy⟩
  · exact one _ trivial
  · exact one _ (tw _ (by simp [so]))
  · exact one _ (tw _ (by simp [so]))
  · exact one _ (tw _ (by simp only [List.mem_cons, List.mem_nil_iff, or_false]; rintro x (rfl | rfl) <;> first | exact so | exact trivial | exact sm2s hn trivial | exact sm2s (by show 4 ≤ 1000; decide) trivial))
  · exact one _ (tw _ (by simp only [List.mem_cons, List.mem_nil_iff, or_false]; rintro x (rfl | rfl) <;> first | exact so | exact trivial | exact sm2s hn trivial | exact sm2s (by show 4 ≤ 1000; decide) trivial))
  · exact one _ (tw _ (by simp [so]))
  · exact one _ (tw _ (by simp only [List.mem_cons, List.mem_nil_iff, or_false]; rintro x (rfl | rfl) <;> first | exact so | exact trivial | exact sm2s hn trivial | exact sm2s (by show 4 ≤ 1000; decide) trivial))
  · exact one _ (tw _ (by simp only [List.mem_cons, List.mem_nil_iff, or_false]; rintro x (rfl | rfl) <;> first | exact so | exact trivial | exact sm2s hn trivial | exact sm2s (by show 4 ≤ 1000; decide) trivial))
  · exact one _ (tw _ (by simp only [List.mem_cons, List.mem_nil_iff, or_false]; rintro x (rfl | rfl) <;> first | exact so | exact trivial | exact sm2s hn trivial | exact sm2s (by show 4 ≤ 1000; decide) trivial))
  · exact one _ trivial
end R0

namespace R0
open PySem PySem.Spec PyProof.Rows L2 Hb St Sq Ow En Zp RZ Rd Xb Da Wa LamX Lc Ty Gu Sm
local macro_rules | `(tactic| walk_at "lt") => `(tactic| repeat (first
  | exact LtA.nil
  | exact LtE.c CD.non
  | exact LtE.c (CD.int _)
  | exact LtE.c (CD.str _)
  | exact LtE.var rfl (by assumption)
  | refine LtA.cons ?_ ?_
  | refine LtE.lst ?_ (by simp)
  | refine LtE.tup ?_ (by simp)))
section
variable {P : Program} {w : World} {K : PySem.W.Frag} {mg : Str → Option Value} {base : Heap}
def spRefused (K : PySem.W.Frag) (T : List (Addr × Str)) : Sp := fun vs H Q _ => ∃ (p l a b c : Addr) (rs : List Rm) (gs cs : List Jn), vs = [.ref p, .ref a, .ref b, .ref c] ∧ DealAt H p l ∧ (a ≠ p ∧ a ≠ l) ∧ (b ≠ p ∧ b ≠ l) ∧ (c ≠ p ∧ c ≠ l) ∧ ListAt K H a rmD rs ∧ ListAt K H b jnD gs ∧ ListAt K H c jnD cs ∧ RLaw rs gs cs ∧ Tabs T H ∧ ∀ H', KpX p l H H' → DealAt H' p l → Tabs T H' → Q (.bl true) H'
theorem ok_refused {f c Pt C CR CT CN B g eg ec : Addr} {T : List (Addr × Str)} {oc : Value} {od an : Option Addr} {osl : Array (Option Value)} {kV doc pm ct : Value}
    (lk : K.lookup f = some ⟨oc, od, .func (PySem.W.fnOf "_law_refused" "_law_refused" (defArgs s__law_refused) (defBody s__law_refused) (defScope s__law_refused) .none kV doc pm an (.ref c) ct), osl⟩) (cd : PySem.W.codeIn K (.ref c) "_law_refused" = true) (TB : TabB base mg c Pt)
    (inT : (Pt, qRefu) ∈ T) (one : ∀ y ∈ T, y.1 = Pt → y.2 = qRefu) (C__law_steps : Cl P w K mg base "_law_steps" ["rooms"] [] 1 (spSteps K)) (C__law_pick : Cl P w K mg base "_law_pick" ["deal", "some"] [] 2 (spPick K)) (L : LawC P w K mg base C CR CT CN B g eg ec) :
    FnG P w K mg base CX0 10 f (PySem.W.fnOf "_law_refused" "_law_refused" (defArgs s__law_refused) (defBody s__law_refused) (defScope s__law_refused) .none kV doc pm an (.ref c) ct) ["deal", "rooms", "gongs", "calls"] (spRefused K T) := by
  obtain ⟨fdg, ⟨⟨ocg, odg, kVg, docg, pmg, ang, cdvg, ctg, oslg, rfl, lkg, cdg'⟩, kpg⟩, bg⟩ := L.wr
  have mwr := L.mwr
  have W3 := L.W3
  have TC := L.TC
  have M_Rooms := L.mkR
  have SM_read := L.rd
  have DX_many_lots := L.many
  have DKX_many_lots_name := L.manyK
  have DX_lot_of := L.lot
  have DKX_lot_of_step := L.lotK
  have DX_step_of := L.stp
  have DKX_step_of_turn_bell_name := L.stpK
  have n_len := L.n_len
  have n_range := L.n_range
  have n_repr := L.n_repr
  have n_enumerate := L.n_enumerate
  have DX_with_gong := L.wg
  have DX_with_call := L.wc
  refine goC lk cd sc__law_refused (fun vs H Q E h => ?_) (fun A outer s H vs Q E hr fr h => ?_)
  · obtain ⟨_, _, _, _, _, _, _, _, rfl, _⟩ := h
    rfl
  · obtain ⟨p, l, a, b, c', rs, gs, cs, rfl, dl, na, nb, nc, la, lb, lc, rl, tb, q⟩ := h
    refine ⟨_, (pss_cons (ps_asg (pe_tup (pa_cons (pe_ix ix_tup (pe_ix ix_list (pv 1) pe_int (fun _ _ => rfl)) pe_int (fun _ _ => rfl)) (pa_cons (pe_ix ix_list (pe_use C__law_steps (hr.mono (by decide)) rfl (pa_cons (pv 1) pa_nil)) pe_int (fun _ _ => rfl)) pa_nil))) (pg_tup rfl (pgs_cons (pg_name (i := 4) sc__law_refused.nd rfl (Or.inl rfl)) (pgs_cons (pg_name (i := 9) sc__law_refused.nd rfl (Or.inr rfl)) pgs_nil))))
    (pss_cons (ps_set (i := 5) sc__law_refused.nd rfl (Or.inl rfl) (pe_lst (pa_cons (pe_lst pa_nil) (pa_cons (pe_tup pa_nil) (pa_cons pe_non (pa_cons (pv 4) (pa_cons pe_int (pa_cons (pe_lst (pa_cons (pe_tup (pa_cons (pv 4) pa_nil)) pa_nil)) (pa_cons (pe_lst (pa_cons (pe_tup (pa_cons pe_str (pa_cons (pe_tup pa_nil) pa_nil))) pa_nil)) (pa_cons (pe_lst (pa_cons (pe_tup (pa_cons (pv 4) (pa_cons (pe_tup (pa_cons (pe_tup pa_nil) pa_nil)) pa_nil))) pa_nil)) (pa_cons (pe_lst (pa_cons (pe_tup (pa_cons (pv 4) (pa_cons (pe_tup (pa_cons (pe_tup (pa_cons pe_str (pa_cons pe_str pa_nil))) pa_nil)) pa_nil))) pa_nil)) (pa_cons (pe_lst (pa_cons (pe_tup (pa_cons (pv 4) (pa_cons pe_str pa_nil))) pa_nil)) pa_nil))))))))))))
    (pss_cons (ps_set (i := 5) sc__law_refused.nd rfl (Or.inl rfl) (pe_op op_cat (pv 5) (pe_lst (pa_cons (pe_lst (pa_cons (pe_tup (pa_cons (pv 4) (pa_cons (pe_tup (pa_cons (pe_tup (pa_cons pe_str (pa_cons pe_str pa_nil))) pa_nil)) pa_nil))) pa_nil)) (pa_cons (pe_lst (pa_cons (pe_tup (pa_cons (pv 4) (pa_cons (pe_tup pa_nil) pa_nil))) (pa_cons (pe_tup (pa_cons (pv 4) (pa_cons (pe_tup pa_nil) pa_nil))) pa_nil))) (pa_cons (pe_lst (pa_cons (pe_tup (pa_cons (pv 4) (pa_cons (pe_tup (pa_cons (pe_tup (pa_cons pe_str pa_nil)) (pa_cons pe_non pa_nil))) pa_nil))) pa_nil)) (pa_cons (pe_lst (pa_cons (pe_tup (pa_cons pe_str (pa_cons (pe_tup pa_nil) pa_nil))) pa_nil)) pa_nil)))))))
    (pss_cons (ps_set (i := 5) sc__law_refused.nd rfl (Or.inl rfl) (pe_op op_cat (pv 5) (pe_lst (pa_cons (pe_lst (pa_cons (pe_tup (pa_cons (pv 4) (pa_cons (pe_tup (pa_cons pe_str pa_nil)) pa_nil))) pa_nil)) (pa_cons (pe_lst (pa_cons (pe_tup (pa_cons pe_str (pa_cons (pe_tup pa_nil) pa_nil))) pa_nil)) (pa_cons (pe_lst (pa_cons (pe_tup (pa_cons pe_str (pa_cons (pe_tup pa_nil) pa_nil))) (pa_cons (pe_tup (pa_cons pe_str (pa_cons (pe_tup pa_nil) pa_nil))) (pa_cons (pe_tup (pa_cons pe_str (pa_cons (pe_tup pa_nil) pa_nil))) (pa_cons (pe_tup (pa_cons pe_str (pa_cons (pe_tup pa_nil) pa_nil))) pa_nil))))) (pa_cons (pe_lst (pa_cons (pe_tup (pa_cons (pv 4) (pa_cons (pe_tup pa_nil) (pa_cons (pe_tup pa_nil) pa_nil)))) pa_nil)) pa_nil)))))))
    (pss_cons (ps_set (i := 5) sc__law_refused.nd rfl (Or.inl rfl) (pe_op op_cat (pv 5) (pe_lst (pa_cons (pe_lst (pa_cons (pe_lst (pa_cons (pv 4) (pa_cons (pe_tup pa_nil) pa_nil))) pa_nil)) (pa_cons (pe_lst (pa_cons (pe_tup (pa_cons (pv 4) (pa_cons (pe_lst (pa_cons (pe_tup (pa_cons pe_str pa_nil)) pa_nil)) pa_nil))) pa_nil)) (pa_cons (pe_lst (pa_cons (pe_tup (pa_cons (pv 4) (pa_cons (pe_tup (pa_cons (pe_lst (pa_cons pe_str pa_nil)) pa_nil)) pa_nil))) pa_nil)) pa_nil))))))
    (pss_cons (ps_set (i := 6) sc__law_refused.nd rfl (Or.inr rfl) (pe_use C__law_pick (hr.mono (by decide)) rfl (pa_cons (pv 0) (pa_cons (pv 5) pa_nil))))
    (pss_cons (ps_set (i := 5) sc__law_refused.nd rfl (Or.inl rfl) (pe_lst (pa_cons pe_int (pa_cons pe_non (pa_cons pe_str (pa_cons (pe_lst (pa_cons pe_int pa_nil)) (pa_cons (pe_lst (pa_cons (pe_tup (pa_cons (pv 9) pa_nil)) pa_nil)) (pa_cons (pe_lst (pa_cons (pe_tup (pa_cons (pv 9) (pa_cons (pv 9) pa_nil))) pa_nil)) (pa_cons (pe_lst (pa_cons (pe_tup (pa_cons (pv 9) (pa_cons (pe_tup (pa_cons pe_str (pa_cons pe_int pa_nil))) pa_nil))) pa_nil)) (pa_cons (pe_lst (pa_cons (pe_tup (pa_cons (pv 9) (pa_cons (pe_tup (pa_cons (pv 4) (pa_cons pe_int pa_nil))) pa_nil))) pa_nil)) (pa_cons (pe_lst (pa_cons (pe_tup (pa_cons (pv 9) (pa_cons (pv 9) (pa_cons (pv 9) pa_nil)))) pa_nil)) pa_nil)))))))))))
    (pss_cons (ps_set (i := 7) sc__law_refused.nd rfl (Or.inr rfl) (pe_use C__law_pick (hr.mono (by decide)) rfl (pa_cons (pv 0) (pa_cons (pe_op op_cat (pv 5) (pe_lst (pa_cons (pe_lst (pa_cons (pe_tup (pa_cons pe_non (pa_cons (pv 9) pa_nil))) pa_nil)) (pa_cons (pe_lst (pa_cons (pe_tup (pa_cons pe_str (pa_cons pe_str pa_nil))) pa_nil)) (pa_cons (pe_lst (pa_cons (pe_tup (pa_cons (pv 9) (pa_cons pe_int pa_nil))) pa_nil)) (pa_cons (pe_lst (pa_cons (pe_lst (pa_cons (pv 9) (pa_cons (pv 9) pa_nil))) pa_nil)) pa_nil)))))) pa_nil))))
    (Evl.pss_cut (ps_if (pt_cmpR (op_neD hr.units) (pe_lamcall (T := T) (t := _) (TT := TWrong K CR CT CN) (k := 7) (a := "work") (Ng := ["work", "e"]) rfl mwr kpg lkg cdg' bg sc__law_wrong rfl (.inl rfl) (wrong_gives W3 fr (un_le hr)) TB rfl inT one (hr.mono (by decide)) (lamS_by rfl) rfl (fun _ _ _ _ _ => rfl) (fun A outer s H E f c' hr2 => pe_mkL3 M_Rooms (hr2.mono (by decide)) (passes_call (takes_of rfl rfl rfl rfl) (fun _ _ _ _ h => h)) (by rfl) (pa_cons (pv 6) (pa_cons (pe_use C__law_pick (hr2.mono (by decide)) (by rfl) (pa_cons (pv 0) (pa_cons (pe_lst (pa_cons (pe_tup pa_nil) (pa_cons (pv 7) pa_nil))) pa_nil))) (pa_cons (pv 7) pa_nil))))) (pe_tup (pa_cons pe_str (pa_cons pe_int pa_nil))) (nomark _)) (pss_one (ps_ret pe_bl)) pss_nil)
    (Evl.pss_cut (ps_if (pt_cmpR (op_neD hr.units) (pe_lamcall (T := T) (t := _) (TT := TWrong K CR CT CN) (k := 7) (a := "work") (Ng := ["work", "e"]) rfl mwr kpg lkg cdg' bg sc__law_wrong rfl (.inl rfl) (wrong_gives W3 fr (un_le hr)) TB rfl inT one (hr.mono (by decide)) (lamS_by rfl) rfl (fun _ _ _ _ _ => rfl) (fun A outer s H E f c' hr2 => pe_mkL3 M_Rooms (hr2.mono (by decide)) (passes_call (takes_of rfl rfl rfl rfl) (fun _ _ _ _ h => h)) (by rfl) (pa_cons (pv 1) (pa_cons (pv 7) (pa_cons (pe_use C__law_pick (hr2.mono (by decide)) (by rfl) (pa_cons (pv 0) (pa_cons (pe_lst (pa_cons (pv 3) (pa_cons (pv 7) pa_nil))) pa_nil))) pa_nil))))) (pe_tup (pa_cons pe_str (pa_cons pe_int pa_nil))) (nomark _)) (pss_one (ps_ret pe_bl)) pss_nil)
    (Evl.pss_cut (ps_if (pt_cmpR (op_neD hr.units) (pe_lamcall (T := T) (t := _) (TT := TWrong K CR CT CN) (k := 7) (a := "work") (Ng := ["work", "e"]) rfl mwr kpg lkg cdg' bg sc__law_wrong rfl (.inl rfl) (wrong_gives W3 fr (un_le hr)) TB rfl inT one (hr.mono (by decide)) (lamS_by rfl) rfl (fun _ _ _ _ _ => rfl) (fun A outer s H E f c' hr2 => pe_mkLK M_Rooms (hr2.mono (by decide)) (passes_call (takes_of rfl rfl rfl rfl) (fun _ _ _ _ h => h)) (by rfl) (pk_cons (pv 1) (pk_cons (pv 2) (pk_cons (pv 7) pk_nil))))) (pe_tup (pa_cons pe_str (pa_cons pe_int pa_nil))) (nomark _)) (pss_one (ps_ret pe_bl)) pss_nil)
    (pss_cons (ps_set (i := 8) sc__law_refused.nd rfl (Or.inr rfl) (pe_mk3 M_Rooms (hr.mono (by decide)) (passes_call L2.takes0 fun _ _ _ _ h => h) rfl (pa_cons (pv 1) (pa_cons (pv 2) (pa_cons (pv 3) pa_nil)))))
    (Evl.pss_cut (ps_if (pt_cmpR (op_neD hr.units) (pe_lamcall (T := T) (t := _) (TT := TWrong K CR CT CN) (k := 7) (a := "work") (Ng := ["work", "e"]) rfl mwr kpg lkg cdg' bg sc__law_wrong rfl (.inl rfl) (wrong_gives W3 fr (un_le hr)) TB rfl inT one (hr.mono (by decide)) (lamS_by rfl) rfl (fun _ _ _ _ _ => rfl) (fun A outer s H E f c' hr2 => pe_doX DX_with_gong TC.cl (hr2.mono (by decide)) (passes_call (takes_of rfl rfl rfl rfl) (fun _ _ _ _ h => h)) (pv 8) (pa_cons (pv 9) (pa_cons (pv 9) pa_nil)))) (pe_tup (pa_cons pe_str (pa_cons pe_int pa_nil))) (nomark _)) (pss_one (ps_ret pe_bl)) pss_nil)
    (pss_one (ps_ret (pe_cmpR (op_eqD hr.units) (pe_lamcall (T := T) (t := _) (TT := TWrong K CR CT CN) (k := 7) (a := "work") (Ng := ["work", "e"]) rfl mwr kpg lkg cdg' bg sc__law_wrong rfl (.inl rfl) (wrong_gives W3 fr (un_le hr)) TB rfl inT one (hr.mono (by decide)) (lamS_by rfl) rfl (fun _ _ _ _ _ => rfl) (fun A outer s H E f c' hr2 => pe_doX DX_with_call TC.cl (hr2.mono (by decide)) (passes_call (takes_of rfl rfl rfl rfl) (fun _ _ _ _ h => h)) (pv 8) (pa_cons (pv 9) (pa_cons pe_non pa_nil)))) (pe_tup (pa_cons pe_str (pa_cons pe_int pa_nil))) (nomark _))))))))))))))))), ?_⟩
    have rh := rl.half
    obtain ⟨xs, ea, al⟩ := la
    have lla : ListAt K H a rmD rs := ⟨xs, ea, al⟩
    obtain ⟨r0, hr0, y0, ys, rfl, dr0⟩ : ∃ r0, r0 ∈ rs ∧ ∃ y0 ys, xs = y0 :: ys ∧ Dp K H y0 (rmD r0) := by
      cases al with
      | nil => exact absurd rl.nr.1 (by decide)
      | @cons y0 r0 ys rs' h0 hr => exact ⟨r0, List.mem_cons_self .., y0, ys, rfl, h0⟩
    obtain ⟨b0, vt, rfl, hb0, _⟩ := dp_rm dr0
    have n7 := rh.in7 r0 hr0
    have nN : r0.1.length ≤ 1000 := by have := (nms7_nm _ n7).2.2.1; omega
    refine ⟨_, rfl, a, _, 0, _, rfl, rfl, SqL.of ea, at0, b0, _, 0, _, rfl, rfl, hb0, at0, _, rfl, a, rs, rfl, lla, by have := rl.nr.2; omega, fun z hz => by have := (rh.tl z hz).1; omega, fun sp H1 s1 hsp lsp => ?_⟩
    obtain ⟨ss, es, als⟩ := lsp
    obtain ⟨o, ho, v0, ss', rfl, dv0⟩ : ∃ o, o ∈ stepsR rs ∧ ∃ v0 ss', ss = v0 :: ss' ∧ Dp K H1 v0 (stD o) := by
      have sne := rl.ne
      generalize stepsR rs = st at als sne
      cases als with
      | nil => exact absurd rfl sne
      | @cons v0 o ss' st h0 hr => exact ⟨o, List.mem_cons_self .., v0, ss', rfl, h0⟩
    obtain ⟨r', hr', eo, _, _⟩ := mem_steps ho
    have oN : o.1.length ≤ 1000 := by rw [eo]; have := (nms7_nm _ (rh.in7 r' hr')).2.2.1; omega
    refine ⟨sp, _, 0, v0, rfl, rfl, SqL.of es, at0, by show 2 ≤ sizeLine; decide, fun t ht => ⟨t, _, rfl, SqT.of upd_same, rfl, _, _, rfl, _, _, rfl, rfl, ?_⟩⟩
    have sG : Same H (upd H1 t (.tup [V.str r0.1, v0])) := s1.trans (same_new ht _)
    have dv0' : Dp K (upd H1 t (.tup [V.str r0.1, v0])) v0 (stD o) := dp_same (same_new ht _) dv0
    generalize upd H1 t (.tup [V.str r0.1, v0]) = G0 at sG dv0' ⊢
    have d0 := dl.same sG
    have t0 := tb.ext sG
    have kG : KpX p l H G0 := KpX.same sG
    have nName : Nd K p l G0 (.str r0.1) (.str r0.1) := nd_str _
    have nOne : Nd K p l G0 v0 (stD o) := nd_of d0 (noL_st o) dv0'
    refine nx_mk ?_
    refine lt_seq (K := K) (H0 := G0) (p := p) (l := l) (ds := badA r0.1) (by walk_at "lt") (by show 10 ≤ 100; decide) (KpX.refl _ _ _) d0 fun a1 xs1 H2 s2 h1 e1 al1 => ?_
    refine cat_seq (K := K) (H0 := G0) (p := p) (l := l) (es := badB r0.1) rfl (by walk_at "lt") (by show 4 ≤ 100; decide) (KpX.same s2) (d0.same s2) e1 al1 (by show 10 ≤ 100; decide) fun a3 xs3 H4 s4 h3 e3 al3 => ?_
    have s04 := s2.trans s4
    refine cat_seq (K := K) (H0 := G0) (p := p) (l := l) (es := badC r0.1) rfl (by walk_at "lt") (by show 4 ≤ 100; decide) (KpX.same s04) (d0.same s04) e3 al3 (by show 14 ≤ 100; decide) fun a5 xs5 H6 s6 h5 e5 al5 => ?_
    have s06 := s04.trans s6
    refine cat_seq (K := K) (H0 := G0) (p := p) (l := l) (es := badD r0.1) rfl (by walk_at "lt") (by show 3 ≤ 100; decide) (KpX.same s06) (d0.same s06) e5 al5 (by show 18 ≤ 100; decide) fun a7 xs7 H8 s8 h7 e7 al7 => ?_
    have s08 := s06.trans s8
    have d8 := d0.same s08
    refine pick_seq (K := K) (ds := badRooms r0.1) rfl rfl d8 (deal_ne (d0.same s06) h7) e7 al7 ⟨by show 1 ≤ 21; decide, by show 21 ≤ 100; decide⟩ fun bad bd H9 hbd k9 d9 nBad => ?_
    obtain ⟨bAr, bSm⟩ := bad_rooms _ n7 bd hbd
    have k09 : KpX p l G0 H9 := (KpX.same s08).trans (KpX.two k9)
    have t9 := tabs_two (t0.ext s08) d8 k9
    refine lt_seq (K := K) (H0 := G0) (p := p) (l := l) (ds := badJ0 r0.1 (stD o)) (by walk_at "lt") (by show 9 ≤ 100; decide) k09 d9 fun b1 ys1 H10 s10 g1 f1 bl1 => ?_
    refine pick_cat (K := K) (H0 := G0) (p := p) (l := l) (es := badJ1 r0.1 (stD o)) rfl rfl (by walk_at "lt") (by show 4 ≤ 100; decide) (k09.trans (KpX.same s10)) (d9.same s10) f1 bl1 ⟨by show 1 ≤ 9; decide, by show 9 ≤ 100; decide⟩ fun joins jd H12 H13 hjd s12 k13 d12 d13 nJ => ?_
    have hjd : jd ∈ badJoins r0.1 (stD o) := hjd
    have s912 := s10.trans s12
    have k913 : KpX p l H9 H13 := (KpX.same s912).trans (KpX.two k13)
    have nBad := nBad.on k913
    have jB := bad_joins rh r0.1 (stD o) jd hjd
    have jS := smJs_bad (n := r0.1) (s := o) nN oN jd hjd
    have kH13 : KpX p l H H13 := (kG.trans k09).trans k913
    have t13 := tabs_two (t9.ext s912) d12 k13
    have nR : Nd K p l H13 (.ref a) (.list (rs.map rmD)) := (nd_at dl na noL_rm lla).on kH13
    have nGs : Nd K p l H13 (.ref b) (.list (gs.map jnD)) := (nd_at dl nb noL_jn lb).on kH13
    have nCs : Nd K p l H13 (.ref c') (.list (cs.map jnD)) := (nd_at dl nc noL_jn lc).on kH13
    have nOne := (nOne.on k09).on k913
    have smr := sm_rms rh
    have smg : SmJs (.list (gs.map jnD)) := sm_jns rh (by have := rl.lg; omega) rl.gj
    have smc : SmJs (.list (cs.map jnD)) := sm_jns rh (by have := rl.lc; omega) rl.cj
    have jG := jsB_law rh rl.gj
    have jC := jsB_law rh rl.cj
    have aR := rh.ar
    clear s08 s06 s04 s912 al1 al3 al5 al7 bl1 e1 e3 e5 e7 f1 h1 h3 h5 h7 g1 s2 s4 s6 s8 s10 s12 k09 k913 k9 k13 d8 d9 d12 t0 t9 d0 sG dv0' kG
    refine ⟨fun σ H' => σ = [some (.ref p), some (.ref a), some (.ref b), some (.ref c'), some (.str r0.1), some (.ref b1), some bad, some joins, none, some v0] ∧ KpX p l H13 H' ∧ DealAt H' p l ∧ Tabs T H', ?_, ?_⟩
    · refine ⟨t13, fun H7 x7 t7 => ?_⟩
      have d7 := d13.ext x7
      have k7 : KpX p l H13 H7 := KpX.ext x7
      refine ⟨_, rfl, _, rfl, by show 0 ≤ sizeLine; decide, fun t1 h1 => ⟨_, rfl, by show 2 ≤ sizeLine; decide, fun t2 h2 => ?_⟩⟩
      have s1 := same_new h1 (.tup [])
      have e1 : upd H7 t1 (.tup []) t1 = some (.tup []) := upd_same
      generalize upd H7 t1 (.tup []) = H8 at s1 e1 h2 ⊢
      have d8 := d7.same s1
      have s2 := same_new h2 (.lst [V.ref t1, joins])
      have e2 : upd H8 t2 (.lst [V.ref t1, joins]) t2 = some (.lst [V.ref t1, joins]) := upd_same
      generalize upd H8 t2 (.lst [V.ref t1, joins]) = H9 at s2 e2 ⊢
      have d9 := d8.same s2
      have n2 := deal_ne d8 h2
      have k9 : KpX p l H13 H9 := k7.trans (KpX.same (s1.trans s2))
      refine ⟨p, l, t2, _, rfl, d9, fun H' k => SqX.lst (k _ _ e2 n2.1 n2.2), ⟨by show 1 ≤ 2; decide, by show 2 ≤ 1000; decide⟩, fun x HA hx kA dA => ?_⟩
      have kAA : KpX p l H13 HA := k9.trans (KpX.two kA)
      have tA := tabs_two (t7.ext (s1.trans s2)) d9 kA
      obtain ⟨xd, nx, sx⟩ : ∃ xd, Dp K HA x xd ∧ SmJs xd := by
        simp only [List.mem_cons, List.mem_nil_iff, or_false] at hx
        rcases hx with rfl | rfl
        · have n1 := d9.np (s2 _ _ e1) fun _ z => by cases z
          exact ⟨.tuple [], .tup (SqT.of (kA _ _ (s2 _ _ e1) n1.1 n1.2)) .nil, smJs_nil⟩
        · exact ⟨jd, (nJ.on kAA).dp, jS⟩
      refine ⟨_, rfl, fun x1 dx1 hx1 hd1 ne1 => rd_mk hx1 hd1 ne1 rfl (nBad.on kAA).dp nx (nJ.on kAA).dp (smR_ok bSm) sx jS (fun no => ?_) fun k ek dd HB sB eB => ?_⟩
      · rw [er_0 bAr] at no; cases no
      rw [er_0 bAr] at ek
      obtain rfl := Option.some.inj ek
      refine told_rooms eB fun u1 HC sC e1' => ⟨by show 2 ≤ sizeLine; decide, fun u2 hu2 => ?_⟩
      have sD := same_new hu2 (.tup [V.str roomsS, .int 0])
      have sAll := (sB.trans sC).trans sD
      exact rne_si (i := 0) low_rooms (sD _ _ e1') upd_same ⟨_, rfl, iteF ⟨rfl, kAA.trans (KpX.same sAll), dA.same sAll, tA.ext sAll⟩⟩
    rintro σ G1 ⟨rfl, kA, dA, tA⟩
    refine ⟨fun σ H' => σ = [some (.ref p), some (.ref a), some (.ref b), some (.ref c'), some (.str r0.1), some (.ref b1), some bad, some joins, none, some v0] ∧ KpX p l H13 H' ∧ DealAt H' p l ∧ Tabs T H', ?_, ?_⟩
    · refine ⟨tA, fun H7 x7 t7 => ?_⟩
      have d7 := dA.ext x7
      have k7 : KpX p l H13 H7 := kA.trans (KpX.ext x7)
      refine ⟨_, rfl, _, rfl, _, rfl, _, rfl, _, rfl, by show 2 ≤ sizeLine; decide, fun t2 h2 => ?_⟩
      have s2 := same_new h2 (.lst [V.ref c', joins])
      have e2 : upd H7 t2 (.lst [V.ref c', joins]) t2 = some (.lst [V.ref c', joins]) := upd_same
      generalize upd H7 t2 (.lst [V.ref c', joins]) = H9 at s2 e2 ⊢
      have d9 := d7.same s2
      have n2 := deal_ne d7 h2
      have k9 : KpX p l H13 H9 := k7.trans (KpX.same s2)
      refine ⟨p, l, t2, _, rfl, d9, fun H' k => SqX.lst (k _ _ e2 n2.1 n2.2), ⟨by show 1 ≤ 2; decide, by show 2 ≤ 1000; decide⟩, fun x HA hx kA2 dA2 => ?_⟩
      have kAA : KpX p l H13 HA := k9.trans (KpX.two kA2)
      have tA2 := tabs_two (t7.ext s2) d9 kA2
      obtain ⟨xd, nx, sx⟩ : ∃ xd, Dp K HA x xd ∧ SmJs xd := by
        simp only [List.mem_cons, List.mem_nil_iff, or_false] at hx
        rcases hx with rfl | rfl
        · exact ⟨_, (nCs.on kAA).dp, smc⟩
        · exact ⟨jd, (nJ.on kAA).dp, jS⟩
      refine fun x1 dx1 hx1 hd1 ne1 => rd_mk hx1 hd1 ne1 rfl (nR.on kAA).dp (nJ.on kAA).dp nx smr jS sx (fun no => ?_) fun k ek dd HB sB eB => ?_
      · rw [er_1 aR jB] at no; cases no
      rw [er_1 aR jB] at ek
      obtain rfl := Option.some.inj ek
      refine told_rooms eB fun u1 HC sC e1' => ⟨by show 2 ≤ sizeLine; decide, fun u2 hu2 => ?_⟩
      have sD := same_new hu2 (.tup [V.str roomsS, .int 1])
      have sAll := (sB.trans sC).trans sD
      exact rne_si (i := 1) low_rooms (sD _ _ e1') upd_same ⟨_, rfl, iteF ⟨rfl, kAA.trans (KpX.same sAll), dA2.same sAll, tA2.ext sAll⟩⟩
    clear kA dA tA
    rintro σ G2 ⟨rfl, kA, dA, tA⟩
    refine ⟨fun σ H' => σ = [some (.ref p), some (.ref a), some (.ref b), some (.ref c'), some (.str r0.1), some (.ref b1), some bad, some joins, none, some v0] ∧ KpX p l H13 H' ∧ DealAt H' p l ∧ Tabs T H', ?_, ?_⟩
    · refine ⟨tA, fun H7 x7 t7 => ?_⟩
      have d7 := dA.ext x7
      have k7 : KpX p l H13 H7 := kA.trans (KpX.ext x7)
      refine ⟨_, rfl, _, rfl, _, rfl, rfl, rfl, fun x1 dx1 hx1 hd1 ne1 => rd_mk hx1 hd1 ne1 rfl (nR.on k7).dp (nGs.on k7).dp (nJ.on k7).dp smr smg jS (fun no => ?_) fun k ek dd HB sB eB => ?_⟩
      · rw [er_2 aR jG jB] at no; cases no
      rw [er_2 aR jG jB] at ek
      obtain rfl := Option.some.inj ek
      refine told_rooms eB fun u1 HC sC e1' => ⟨by show 2 ≤ sizeLine; decide, fun u2 hu2 => ?_⟩
      have sD := same_new hu2 (.tup [V.str roomsS, .int 2])
      have sAll := (sB.trans sC).trans sD
      exact rne_si (i := 2) low_rooms (sD _ _ e1') upd_same ⟨_, rfl, iteF ⟨rfl, k7.trans (KpX.same sAll), d7.same sAll, t7.ext sAll⟩⟩
    clear kA dA tA
    rintro σ G3 ⟨rfl, kA, dA, tA⟩
    refine ⟨_, rfl, _, rfl, _, rfl, fun m dx1 hx1 hd1 ne1 => rd_mk hx1 hd1 ne1 rfl (nR.on kA).dp (nGs.on kA).dp (nCs.on kA).dp smr smg smc (fun _ H6 s6 ra => ⟨rfl, ?_⟩) fun k ek => ?_⟩
    rotate_left
    · rw [err_law rl] at ek; cases ek
    have ra : RoomsAt K C H6 m ⟨rs, gs, cs⟩ := ra
    have k6 : KpX p l H13 H6 := kA.trans (KpX.same s6)
    have d6 := dA.same s6
    have t6 := tA.ext s6
    refine ⟨fun σ H' => σ = [some (.ref p), some (.ref a), some (.ref b), some (.ref c'), some (.str r0.1), some (.ref b1), some bad, some joins, some (.ref m), some v0] ∧ ExtN H6 H' ∧ Tabs T H', ?_, ?_⟩
    · refine ⟨t6, fun H7 x7 t7 => ?_⟩
      have k7 : KpX p l H13 H7 := k6.trans (KpX.ext x7)
      have ra7 := RmAt.ext ra x7
      obtain ⟨dx, a', b', c'', h0, hrest⟩ := ra7
      have ra7 : RmAt K C H7 m (rs.map rmD) (gs.map jnD) (cs.map jnD) := ⟨dx, a', b', c'', h0, hrest⟩
      have dO := (nOne.on k7).dp
      have er : rmErr (.tuple (rs.map rmD)) (.tuple (gs.map jnD ++ [.tuple [stD o, stD o]])) (.tuple (cs.map jnD)) = some 1 := er_1 aR (js_snoc (dr := .list (rs.map rmD)) (jn_same _ _))
      have so : SmS (stD o) := sm2s oN trivial
      refine ⟨_, rfl, m, dx, _, rfl, h0, rfl, _, rfl, _, rfl, m, v0, v0, stD o, stD o, rs.map rmD, gs.map jnD, cs.map jnD, rfl, ra7, dO, dO, smr, sm_snoc smg (by rw [List.length_map]; have := rl.lg; omega) (fun x hx => ?_), smc, fun no => ?_, fun k ek dd HB sB eB => ?_⟩
      · simp only [List.mem_cons, List.mem_nil_iff, or_false] at hx
        rcases hx with rfl | rfl <;> exact so
      · rw [er] at no; cases no
      rw [er] at ek
      obtain rfl := Option.some.inj ek
      refine told_rooms eB fun u1 HC sC e1' => ⟨by show 2 ≤ sizeLine; decide, fun u2 hu2 => ?_⟩
      have sD := same_new hu2 (.tup [V.str roomsS, .int 1])
      have sAll := (sB.trans sC).trans sD
      exact rne_si (i := 1) low_rooms (sD _ _ e1') upd_same ⟨_, rfl, iteF ⟨rfl, x7.trans (ExtN.same sAll), t7.ext sAll⟩⟩
    rintro σ G4 ⟨rfl, x4, t4⟩
    refine ⟨t4, fun H7 x7 t7 => ?_⟩
    have x67 := x4.trans x7
    have k7 : KpX p l H13 H7 := k6.trans (KpX.ext x67)
    have ra7 := RmAt.ext ra x67
    obtain ⟨dx, a', b', c'', h0, hrest⟩ := ra7
    have ra7 : RmAt K C H7 m (rs.map rmD) (gs.map jnD) (cs.map jnD) := ⟨dx, a', b', c'', h0, hrest⟩
    have dO := (nOne.on k7).dp
    have er : rmErr (.tuple (rs.map rmD)) (.tuple (gs.map jnD)) (.tuple (cs.map jnD ++ [.tuple [stD o, .none]])) = some 2 := er_2 aR jG (js_snoc (dr := .list (rs.map rmD)) (jn_non _ _))
    have so : SmS (stD o) := sm2s oN trivial
    refine ⟨_, rfl, m, dx, _, rfl, h0, rfl, _, rfl, m, v0, .non, stD o, .none, rs.map rmD, gs.map jnD, cs.map jnD, rfl, ra7, dO, .non, smr, smg, sm_snoc smc (by rw [List.length_map]; have := rl.lc; omega) (fun x hx => ?_), fun no => ?_, fun k ek dd HB sB eB => ?_⟩
    · simp only [List.mem_cons, List.mem_nil_iff, or_false] at hx
      rcases hx with rfl | rfl
      · exact so
      · trivial
    · rw [er] at no; cases no
    rw [er] at ek
    obtain rfl := Option.some.inj ek
    refine told_rooms eB fun u1 HC sC e1' => ⟨by show 2 ≤ sizeLine; decide, fun u2 hu2 => ?_⟩
    have sD := same_new hu2 (.tup [V.str roomsS, .int 2])
    have sAll := (sB.trans sC).trans sD
    exact req_si (i := 2) low_rooms (sD _ _ e1') upd_same (q _ ((kH13.trans k7).trans (KpX.same sAll)) ((d6.ext x67).same sAll) (t7.ext sAll))
end
end R0

namespace R0
open PySem PySem.Spec PyProof.Rows L2 Hb St Sq Ow En Zp RZ Rd Xb Da Wa LamX Lc Ty Gu Sm
/-! ### the mathematics of texts -/
theorem nl_tl : TL.tl nl = 10 :: [] := by decide
theorem nm_no {x : Str} (h : IsNm x) {c : Nat} (hc : c < 97) : c ∉ TL.tl x := fun m => by
  have := (h.2.2 c m).1
  omega
theorem lot_no44 {l : Lot} (h : ∀ x ∈ l, IsNm x) {c : Nat} (h1 : c ≠ 32) (h2 : c < 97) : c ∉ TL.tl (Txt.join sp l) := by
  intro hc
  rw [TL.join_eq, TL.tl_join] at hc
  rcases joinL_mem hc with hc | ⟨p, hp, hc⟩
  · rw [sp_tl] at hc
    exact h1 (List.mem_singleton.mp hc)
  · obtain ⟨x, hx, rfl⟩ := List.mem_map.mp hp
    exact nm_no (h x hx) h2 hc
theorem lots_no {t : Tale} (h : NmT t) {c : Nat} (h1 : c ≠ 32) (h3 : c ≠ 44) (h2 : c < 97) : c ∉ TL.tl (lotsT t) := by
  intro hc
  unfold lotsT at hc
  rw [TL.join_eq, TL.tl_join] at hc
  rcases joinL_mem hc with hc | ⟨p, hp, hc⟩
  · rw [cm_tl] at hc
    simp only [List.mem_cons, List.mem_nil_iff, or_false] at hc
    rcases hc with rfl | rfl
    · exact h3 rfl
    · exact h1 rfl
  · obtain ⟨x, hx, rfl⟩ := List.mem_map.mp hp
    obtain ⟨l, hl, rfl⟩ := List.mem_map.mp hx
    exact lot_no44 (h l hl) h1 h2 hc
theorem split_lots {t : Tale} (n : NmT t) (ne : t ≠ []) (nl : ∀ l ∈ t, l ≠ []) : (Txt.split (lotsT t) cm).map (fun l => Txt.split l sp) = t := by
  unfold lotsT
  rw [TL.split_join cm_tl (by decide +kernel) (fun e => ne (List.map_eq_nil_iff.mp e)) (fun p hp => by
    obtain ⟨l, hl, rfl⟩ := List.mem_map.mp hp
    exact lot_no44 (n l hl) (by decide) (by decide)), List.map_map]
  conv => rhs; rw [← List.map_id t]
  refine List.map_congr_left fun l hl => ?_
  exact TL.split_join sp_tl (by decide +kernel) (nl l hl) fun p hp => nm_no (n l hl p hp) (by decide)
def roomW : Str := Str.ofString "room"
theorem room_sp : roomS = roomW ++ sp := by decide
theorem room_no : 32 ∉ TL.tl roomW := by decide
theorem part_room (r : Str) : Txt.partition (roomS ++ r) sp = (roomW, sp, r) := by
  rw [room_sp]
  exact TL.partition_app sp_tl room_no
theorem emp (x : Str) : Str.empty ++ x = x := law_jn x
theorem app3 (a b c : Str) : a ++ b ++ c = a ++ (b ++ c) := TL.ext_tl (by simp [TL.tl_append])
theorem rm_row {r : Rm} (h : NmR r) (hn : nmB r.1 = true) (hb : ∀ l ∈ r.2, l ≠ [] ∧ ∀ x ∈ l, nmB x = true) : (Txt.partition (rmRow r) sp).1 = roomW ∧ rdRoom (Txt.partition (rmRow r) sp).2.2 = some r := by
  unfold rmRow
  by_cases c : r.2 = []
  · rw [if_pos c, emp, part_room]
    refine ⟨rfl, ?_⟩
    unfold rdRoom rdLots
    show (if nmB (Txt.partition r.1 sp).1 = true ∧ _ then _ else _) = _
    rw [TL.partition_none sp_tl (nm_no h.1 (by decide))]
    show (if nmB r.1 = true ∧ _ then some (r.1, []) else none) = some r
    rw [if_pos ⟨hn, rfl⟩, ← c]
  · rw [if_neg c, emp, show roomS ++ r.1 ++ sp ++ lotsT r.2 = roomS ++ (r.1 ++ sp ++ lotsT r.2) from TL.ext_tl (by simp [TL.tl_append]), part_room]
    refine ⟨rfl, ?_⟩
    unfold rdRoom rdLots
    show (if nmB (Txt.partition (r.1 ++ sp ++ lotsT r.2) sp).1 = true ∧ _ then _ else _) = _
    rw [TL.partition_app sp_tl (nm_no h.1 (by decide))]
    show (if nmB r.1 = true ∧ (((Txt.split (lotsT r.2) cm).map fun l => Txt.split l sp).all fun l => l.all nmB) = true then some (r.1, (Txt.split (lotsT r.2) cm).map fun l => Txt.split l sp) else none) = some r
    rw [split_lots h.2 c fun l hl => (hb l hl).1, if_pos ⟨hn, List.all_eq_true.mpr fun l hl => List.all_eq_true.mpr (hb l hl).2⟩]
theorem lots7_hb : ∀ l ∈ lots7, l ≠ [] ∧ ∀ x ∈ l, nmB x = true := by decide +kernel
theorem num_ok : ∀ i ∈ ([1, 2, 3] : List Int), wI (iS i) = some i ∧ (iS i).length ≤ 4 ∧ 0 ≤ i ∧ ∀ c ∈ TL.tl (iS i), 33 ≤ c := by decide +kernel
theorem jn_cat (a b c d : Str) : a ++ sp ++ b ++ sp ++ c ++ sp ++ d = Txt.join sp [a, b, c, d] := by
  rw [TL.join_eq]
  refine TL.ext_tl ?_
  rw [TL.tl_join]
  show _ = TL.tl a ++ (TL.tl sp ++ (TL.tl b ++ (TL.tl sp ++ (TL.tl c ++ (TL.tl sp ++ TL.tl d)))))
  simp [TL.tl_append]
theorem jn_row {w : Str} {j : Jn} (hw : 32 ∉ TL.tl w) (n1 : IsNm j.1.1) (n2 : IsNm j.2.1) (b1 : nmB j.1.1 = true) (b2 : nmB j.2.1 = true) (i1 : j.1.2 ∈ ([1, 2, 3] : List Int)) (i2 : j.2.2 ∈ ([1, 2, 3] : List Int)) : (Txt.partition (jnRow w j) sp).1 = w ∧ rdJoin (Txt.partition (jnRow w j) sp).2.2 = some j := by
  unfold jnRow
  rw [emp, show w ++ sp ++ j.1.1 ++ sp ++ iS j.1.2 ++ sp ++ j.2.1 ++ sp ++ iS j.2.2 = w ++ sp ++ (j.1.1 ++ sp ++ iS j.1.2 ++ sp ++ j.2.1 ++ sp ++ iS j.2.2) from TL.ext_tl (by simp [TL.tl_append]), TL.partition_app sp_tl hw]
  refine ⟨rfl, ?_⟩
  obtain ⟨w1, l1, z1, c1⟩ := num_ok _ i1
  obtain ⟨w2, l2, z2, c2⟩ := num_ok _ i2
  have e : Txt.split (j.1.1 ++ sp ++ iS j.1.2 ++ sp ++ j.2.1 ++ sp ++ iS j.2.2) sp = [j.1.1, iS j.1.2, j.2.1, iS j.2.2] := by
    rw [jn_cat]
    refine TL.split_join sp_tl (by decide +kernel) (by simp) fun p hp => ?_
    simp only [List.mem_cons, List.mem_nil_iff, or_false] at hp
    rcases hp with rfl | rfl | rfl | rfl
    · exact nm_no n1 (by decide)
    · exact fun m => absurd (c1 _ m) (by decide)
    · exact nm_no n2 (by decide)
    · exact fun m => absurd (c2 _ m) (by decide)
  show rdJoin (j.1.1 ++ sp ++ iS j.1.2 ++ sp ++ j.2.1 ++ sp ++ iS j.2.2) = some j
  unfold rdJoin
  rw [e]
  show (match wI (iS j.1.2), wI (iS j.2.2) with
    | some i, some k => if nmB j.1.1 = true ∧ nmB j.2.1 = true ∧ 0 ≤ i ∧ 0 ≤ k ∧ (iS j.1.2).length ≤ 4 ∧ (iS j.2.2).length ≤ 4 then some ((j.1.1, i), (j.2.1, k)) else none
    | _, _ => none) = some j
  rw [w1, w2]
  exact if_pos ⟨b1, b2, z1, z2, l1, l2⟩
theorem jn_no {w : Str} {j : Jn} {c : Nat} (hw : c ∉ TL.tl w) (n1 : IsNm j.1.1) (n2 : IsNm j.2.1) (hc : c < 32) (i1 : j.1.2 ∈ ([1, 2, 3] : List Int)) (i2 : j.2.2 ∈ ([1, 2, 3] : List Int)) : c ∉ TL.tl (jnRow w j) := by
  obtain ⟨_, _, _, c1⟩ := num_ok _ i1
  obtain ⟨_, _, _, c2⟩ := num_ok _ i2
  have h1 := nm_no n1 (c := c) (by omega)
  have h2 := nm_no n2 (c := c) (by omega)
  have h3 : c ∉ TL.tl (iS j.1.2) := fun m => by have := c1 _ m; omega
  have h4 : c ∉ TL.tl (iS j.2.2) := fun m => by have := c2 _ m; omega
  have h5 : c ≠ 32 := by omega
  unfold jnRow
  rw [emp]
  simp [TL.tl_append, hw, h1, h2, h3, h4, h5, sp_tl]
theorem rm_no {r : Rm} {c : Nat} (h : NmR r) (hc : c < 32) : c ∉ TL.tl (rmRow r) := by
  have h1 := nm_no h.1 (c := c) (by omega)
  have h2 := lots_no h.2 (c := c) (by omega) (by omega) (by omega)
  have h5 : c ≠ 32 := by omega
  have h6 : c ∉ TL.tl roomS := fun m => by
    have : ∀ x ∈ TL.tl roomS, 32 ≤ x := by decide
    have := this c m
    omega
  unfold rmRow
  split
  · rw [emp]
    simp [TL.tl_append, h1, h6]
  · rw [emp]
    simp [TL.tl_append, h1, h2, h5, h6, sp_tl]
theorem step3 {rs : List Rm} (h : RHalf rs) {s : Stp} (hs : s ∈ stepsR rs) : IsNm s.1 ∧ nmB s.1 = true ∧ s.2 ∈ ([1, 2, 3] : List Int) := by
  obtain ⟨r, hr, e, i1, i2⟩ := mem_steps hs
  have n := nms7_nm _ (h.in7 r hr)
  have := (h.tl r hr).1
  refine ⟨by rw [e]; exact n.2, by rw [e]; exact n.1, ?_⟩
  have : s.2 = 1 ∨ s.2 = 2 ∨ s.2 = 3 := by omega
  simpa using this
/-! ### reading row by row -/
theorem rdRows_cons (row : Str) (rest : List Str) (last : Str) (R : RD) (n : Nat) : rdRows (row :: rest) last R n = if mayB last (Txt.partition row sp).1 = false then .inr n else
    if (Txt.partition row sp).1 = Str.ofString "room" then (match rdRoom (Txt.partition row sp).2.2 with
      | none => .inr n
      | some r => rdRows rest (Txt.partition row sp).1 { R with rooms := R.rooms ++ [r] } (n + 1)) else
    (match rdJoin (Txt.partition row sp).2.2 with
      | none => .inr n
      | some j => rdRows rest (Txt.partition row sp).1 (if (Txt.partition row sp).1 = gongS then { R with gongs := R.gongs ++ [j] } else { R with calls := R.calls ++ [j] }) (n + 1)) := rfl
theorem rd_rooms : ∀ {rs : List Rm} {rest : List Str} {R : RD} {n : Nat}, (∀ r ∈ rs, (Txt.partition (rmRow r) sp).1 = roomW ∧ rdRoom (Txt.partition (rmRow r) sp).2.2 = some r) → rdRows (rs.map rmRow ++ rest) roomW R n = rdRows rest roomW { R with rooms := R.rooms ++ rs } (n + rs.length)
  | [], rest, R, n, _ => by
    show rdRows rest roomW R n = rdRows rest roomW { R with rooms := R.rooms ++ [] } n
    rw [List.append_nil]
  | r :: rs, rest, R, n, h => by
    obtain ⟨e1, e2⟩ := h r (List.mem_cons_self ..)
    show rdRows (rmRow r :: (rs.map rmRow ++ rest)) roomW R n = _
    rw [rdRows_cons]
    rw [e1, if_neg (by decide +kernel), if_pos (show roomW = Str.ofString "room" from rfl), e2]
    show rdRows (rs.map rmRow ++ rest) roomW { R with rooms := R.rooms ++ [r] } (n + 1) = _
    rw [rd_rooms fun r hr => h r (List.mem_cons_of_mem _ hr), List.length_cons]
    show rdRows rest roomW { R with rooms := R.rooms ++ [r] ++ rs } (n + 1 + rs.length) = _
    rw [List.append_assoc, show n + 1 + rs.length = n + (rs.length + 1) by omega]; rfl
theorem rd_gongs : ∀ {gs : List Jn} {rest : List Str} {R : RD} {n : Nat} {last : Str}, (last = roomW ∨ last = gongS) → (∀ j ∈ gs, (Txt.partition (jnRow gongS j) sp).1 = gongS ∧ rdJoin (Txt.partition (jnRow gongS j) sp).2.2 = some j) → ∃ l2, (l2 = roomW ∨ l2 = gongS) ∧ (gs ≠ [] → l2 = gongS) ∧ rdRows (gs.map (jnRow gongS) ++ rest) last R n = rdRows rest l2 { R with gongs := R.gongs ++ gs } (n + gs.length)
  | [], rest, R, n, last, hl, _ => ⟨last, hl, fun h => absurd rfl h, by
    show rdRows rest last R n = rdRows rest last { R with gongs := R.gongs ++ [] } n
    rw [List.append_nil]⟩
  | j :: gs, rest, R, n, last, hl, h => by
    obtain ⟨e1, e2⟩ := h j (List.mem_cons_self ..)
    obtain ⟨l2, h1, h2, e⟩ := rd_gongs (gs := gs) (rest := rest) (R := { R with gongs := R.gongs ++ [j] }) (n := n + 1) (last := gongS) (.inr rfl) fun r hr => h r (List.mem_cons_of_mem _ hr)
    refine ⟨gongS, .inr rfl, fun _ => rfl, ?_⟩
    have l2g : l2 = gongS ∨ gs = [] := by
      by_cases c : gs = []
      · exact .inr c
      · exact .inl (h2 c)
    show rdRows (jnRow gongS j :: (gs.map (jnRow gongS) ++ rest)) last R n = _
    rw [rdRows_cons]
    have hm : mayB last gongS ≠ false := by rcases hl with rfl | rfl <;> decide +kernel
    rw [e1, if_neg hm, if_neg (by decide +kernel), e2]
    show rdRows (gs.map (jnRow gongS) ++ rest) gongS (if gongS = gongS then { R with gongs := R.gongs ++ [j] } else { R with calls := R.calls ++ [j] }) (n + 1) = _
    rw [if_pos rfl]
    rcases l2g with rfl | rfl
    · rw [e, List.length_cons]
      show rdRows rest gongS { R with gongs := R.gongs ++ [j] ++ gs } (n + 1 + gs.length) = _
      rw [List.append_assoc, show n + 1 + gs.length = n + (gs.length + 1) by omega]; rfl
    · rfl
theorem rd_calls : ∀ {cs : List Jn} {rest : List Str} {R : RD} {n : Nat} {last : Str}, (last = roomW ∨ last = gongS ∨ last = callS) → (∀ j ∈ cs, (Txt.partition (jnRow callS j) sp).1 = callS ∧ rdJoin (Txt.partition (jnRow callS j) sp).2.2 = some j) → ∃ l2, (l2 = last ∨ l2 = callS) ∧ (cs ≠ [] → l2 = callS) ∧ rdRows (cs.map (jnRow callS) ++ rest) last R n = rdRows rest l2 { R with calls := R.calls ++ cs } (n + cs.length)
  | [], rest, R, n, last, hl, _ => ⟨last, .inl rfl, fun h => absurd rfl h, by
    show rdRows rest last R n = rdRows rest last { R with calls := R.calls ++ [] } n
    rw [List.append_nil]⟩
  | j :: gs, rest, R, n, last, hl, h => by
    obtain ⟨e1, e2⟩ := h j (List.mem_cons_self ..)
    obtain ⟨l2, h1, h2, e⟩ := rd_calls (cs := gs) (rest := rest) (R := { R with calls := R.calls ++ [j] }) (n := n + 1) (last := callS) (.inr (.inr rfl)) fun r hr => h r (List.mem_cons_of_mem _ hr)
    refine ⟨callS, .inr rfl, fun _ => rfl, ?_⟩
    have l2g : l2 = callS := h1.elim id id
    show rdRows (jnRow callS j :: (gs.map (jnRow callS) ++ rest)) last R n = _
    rw [rdRows_cons]
    have hm : mayB last callS ≠ false := by rcases hl with rfl | rfl | rfl <;> decide +kernel
    rw [e1, if_neg hm, if_neg (by decide +kernel), e2]
    show rdRows (gs.map (jnRow callS) ++ rest) callS (if callS = gongS then { R with gongs := R.gongs ++ [j] } else { R with calls := R.calls ++ [j] }) (n + 1) = _
    rw [if_neg (by decide +kernel), e, l2g, List.length_cons]
    show rdRows rest callS { R with calls := R.calls ++ [j] ++ gs } (n + 1 + gs.length) = _
    rw [List.append_assoc, show n + 1 + gs.length = n + (gs.length + 1) by omega]; rfl
section
variable {rs : List Rm} {gs cs : List Jn}
theorem law_rm (h : RHalf rs) : ∀ r ∈ rs, (Txt.partition (rmRow r) sp).1 = roomW ∧ rdRoom (Txt.partition (rmRow r) sp).2.2 = some r := fun r hr =>
  rm_row (h.nmR r hr) (nms7_nm _ (h.in7 r hr)).1 fun l hl => lots7_hb l ((h.tl r hr).2 l hl)
theorem law_jn2 (h : RHalf rs) {w : Str} (hw : 32 ∉ TL.tl w) {js : List Jn} (g : ∀ j ∈ js, j.1 ∈ stepsR rs ∧ j.2 ∈ stepsR rs ∧ j.1.1 ≠ j.2.1) : ∀ j ∈ js, (Txt.partition (jnRow w j) sp).1 = w ∧ rdJoin (Txt.partition (jnRow w j) sp).2.2 = some j := fun j hj => by
  obtain ⟨a1, a2, a3⟩ := step3 h (g j hj).1
  obtain ⟨b1, b2, b3⟩ := step3 h (g j hj).2.1
  exact jn_row hw a1 b1 a2 b2 a3 b3
theorem gong_no : 32 ∉ TL.tl gongS ∧ 10 ∉ TL.tl gongS ∧ 32 ∉ TL.tl callS ∧ 10 ∉ TL.tl callS := by decide
/-- a part of each, then the rest -/
theorem rd_some {r1 : List Rm} {g1 c1 : List Jn} (h : RLaw rs gs cs) (hr : ∀ r ∈ r1, r ∈ rs) (hg : ∀ j ∈ g1, j ∈ gs) (hc : ∀ j ∈ c1, j ∈ cs) (rest : List Str) : ∃ last, (last = roomW ∨ last = gongS ∨ last = callS) ∧ (g1 ++ c1 ≠ [] → last ≠ roomW) ∧ rdRows (((r1.map rmRow ++ g1.map (jnRow gongS)) ++ c1.map (jnRow callS)) ++ rest) roomW ⟨[], [], []⟩ 0 = rdRows rest last ⟨r1, g1, c1⟩ (r1.length + g1.length + c1.length) := by
  have hh := h.half
  rw [List.append_assoc, List.append_assoc, rd_rooms fun r m => law_rm hh r (hr r m)]
  obtain ⟨l1, a1, a2, a3⟩ := rd_gongs (gs := g1) (rest := c1.map (jnRow callS) ++ rest) (R := ⟨[] ++ r1, [], []⟩) (n := 0 + r1.length) (last := roomW) (.inl rfl) fun j m => law_jn2 hh gong_no.1 h.gj j (hg j m)
  obtain ⟨l2, b1, b2, b3⟩ := rd_calls (cs := c1) (rest := rest) (R := ⟨[] ++ r1, [] ++ g1, []⟩) (n := 0 + r1.length + g1.length) (last := l1) (a1.elim .inl fun z => .inr (.inl z)) fun j m => law_jn2 hh gong_no.2.2.1 h.cj j (hc j m)
  refine ⟨l2, ?_, fun ne => ?_, ?_⟩
  · rcases b1 with rfl | rfl
    · exact a1.elim .inl fun z => .inr (.inl z)
    · exact .inr (.inr rfl)
  · by_cases c : c1 = []
    · subst c
      have gne : g1 ≠ [] := fun z => ne (by rw [z]; rfl)
      rcases b1 with rfl | rfl
      · rw [a2 gne]; decide
      · decide
    · rw [b2 c]; decide
  · show rdRows (g1.map (jnRow gongS) ++ (c1.map (jnRow callS) ++ rest)) roomW ⟨[] ++ r1, [], []⟩ (0 + r1.length) = _
    rw [a3]
    show rdRows (c1.map (jnRow callS) ++ rest) l1 ⟨[] ++ r1, [] ++ g1, []⟩ (0 + r1.length + g1.length) = _
    rw [b3]
    show rdRows rest l2 ⟨[] ++ r1, [] ++ g1, [] ++ c1⟩ (0 + r1.length + g1.length + c1.length) = _
    rw [List.nil_append, List.nil_append, List.nil_append, Nat.zero_add]
theorem rows_no (h : RLaw rs gs cs) : ∀ x ∈ rowsR ⟨rs, gs, cs⟩, 10 ∉ TL.tl x := by
  intro x hx
  have hh := h.half
  unfold rowsR at hx
  rcases List.mem_append.mp hx with hx | hx
  · rcases List.mem_append.mp hx with hx | hx
    · obtain ⟨r, hr, rfl⟩ := List.mem_map.mp hx
      exact rm_no (hh.nmR r hr) (by decide)
    · obtain ⟨j, hj, rfl⟩ := List.mem_map.mp hx
      obtain ⟨a1, a2, a3⟩ := step3 hh (h.gj j hj).1
      obtain ⟨b1, b2, b3⟩ := step3 hh (h.gj j hj).2.1
      exact jn_no gong_no.2.1 a1 b1 (by decide) a3 b3
  · obtain ⟨j, hj, rfl⟩ := List.mem_map.mp hx
    obtain ⟨a1, a2, a3⟩ := step3 hh (h.cj j hj).1
    obtain ⟨b1, b2, b3⟩ := step3 hh (h.cj j hj).2.1
    exact jn_no gong_no.2.2.2 a1 b1 (by decide) a3 b3
theorem rows_ne (h : RLaw rs gs cs) : rowsR ⟨rs, gs, cs⟩ ≠ [] := by
  have := h.nr.1
  unfold rowsR
  intro z
  have e := congrArg List.length z
  simp only [List.length_append, List.length_map, List.length_nil] at e
  omega
theorem split_nl {l : List Str} (ne : l ≠ []) (no : ∀ x ∈ l, 10 ∉ TL.tl x) : Txt.split (Txt.join nl l) nl = l := TL.split_join nl_tl (by decide +kernel) ne no
theorem text_rows (h : RLaw rs gs cs) : Txt.split (textR ⟨rs, gs, cs⟩) nl = rowsR ⟨rs, gs, cs⟩ := split_nl (rows_ne h) (rows_no h)
/-- what was written is read -/
theorem read_back (h : RLaw rs gs cs) : rdText (textR ⟨rs, gs, cs⟩) = .inl ⟨rs, gs, cs⟩ := by
  obtain ⟨l, _, _, e⟩ := rd_some h (fun _ h => h) (fun _ h => h) (fun _ h => h) []
  unfold rdText
  rw [text_rows h]
  rw [List.append_nil] at e
  exact e
end
end R0

namespace R0
open PySem PySem.Spec PyProof.Rows L2 Hb St Sq Ow En Zp RZ Rd Xb Da Wa LamX Lc Ty Gu Sm
def badX : List Str := [Str.ofString "", Str.ofString "room", Str.ofString "room ", Str.ofString "Room a", Str.ofString "room a ", Str.ofString "room a  ding", Str.ofString "room a ding,dong", Str.ofString "gong a 1 b", Str.ofString "gong a 1 b 2 "]
def badY : List Str := [Str.ofString "gong a 01 b 2", Str.ofString "call a b 1 2", Str.ofString "call a -1 b 1", Str.ofString "room a1", Str.ofString "room a ding, ", Str.ofString "rooms a", Str.ofString "gong a 10000 b 2"]
def noRow (x : Str) : Bool := !decide ((Txt.partition x sp).1 ∈ wds) || (if (Txt.partition x sp).1 = Str.ofString "room" then (rdRoom (Txt.partition x sp).2.2).isNone else (rdJoin (Txt.partition x sp).2.2).isNone)
theorem bad_rows : ∀ x ∈ badX ++ badY, noRow x = true ∧ x.length ≤ 20 ∧ 10 ∉ TL.tl x := by decide +kernel
theorem bad_row {x : Str} (h : noRow x = true) (rest : List Str) (last : Str) (R : RD) (n : Nat) : rdRows (x :: rest) last R n = .inr n := by
  rw [rdRows_cons]
  unfold noRow at h
  by_cases c : (Txt.partition x sp).1 ∈ wds
  · rw [decide_eq_true c] at h
    by_cases m : mayB last (Txt.partition x sp).1 = false
    · rw [if_pos m]
    rw [if_neg m]
    by_cases e : (Txt.partition x sp).1 = Str.ofString "room"
    · rw [if_pos e] at h ⊢
      have h : (rdRoom (Txt.partition x sp).2.2).isNone = true := by simpa using h
      cases hh : rdRoom (Txt.partition x sp).2.2 with
      | none => rfl
      | some r => rw [hh] at h; cases h
    · rw [if_neg e] at h ⊢
      have h : (rdJoin (Txt.partition x sp).2.2).isNone = true := by simpa using h
      cases hh : rdJoin (Txt.partition x sp).2.2 with
      | none => rfl
      | some r => rw [hh] at h; cases h
  · have m : mayB last (Txt.partition x sp).1 = false := by
      unfold mayB
      rw [decide_eq_false c]; rfl
    rw [if_pos m]
def otherS : Str := Str.ofString "room other"
theorem other_word : (Txt.partition otherS sp).1 = roomW ∧ mayB gongS roomW = false ∧ mayB callS roomW = false ∧ otherS.length ≤ 20 ∧ 10 ∉ TL.tl otherS := by decide +kernel
section
variable {rs : List Rm} {gs cs : List Jn}
theorem law_sm (h : RLaw rs gs cs) : RSm ⟨rs, gs, cs⟩ := by
  have hh := h.half
  have st : ∀ {js : List Jn}, (∀ j ∈ js, j.1 ∈ stepsR rs ∧ j.2 ∈ stepsR rs ∧ j.1.1 ≠ j.2.1) → ∀ j ∈ js, 0 ≤ j.1.2 ∧ j.1.2 < 100 ∧ 0 ≤ j.2.2 ∧ j.2.2 < 100 := fun g j hj => by
    obtain ⟨r, hr, _, i1, i2⟩ := mem_steps (g j hj).1
    obtain ⟨r', hr', _, k1, k2⟩ := mem_steps (g j hj).2.1
    have := (hh.tl r hr).1
    have := (hh.tl r' hr').1
    omega
  refine ⟨⟨hh.nmR, fun j hj => ⟨(step3 hh (h.gj j hj).1).1, (step3 hh (h.gj j hj).2.1).1⟩, fun j hj => ⟨(step3 hh (h.cj j hj).1).1, (step3 hh (h.cj j hj).2.1).1⟩⟩, ?_, fun r hr => ⟨?_, fun l hl => ?_⟩, ?_, ?_, st h.gj, st h.cj⟩
  · have := h.nr.2; show rs.length ≤ 10; omega
  · have := (hh.tl r hr).1; omega
  · have := (lots7_nm l ((hh.tl r hr).2 l hl)).1; omega
  · have := h.lg; show gs.length ≤ 10; omega
  · have := h.lc; show cs.length ≤ 10; omega
theorem row_len (h : RLaw rs gs cs) : ∀ x ∈ rowsR ⟨rs, gs, cs⟩, x.length ≤ 260 := by
  have s := law_sm h
  intro x hx
  unfold rowsR at hx
  rcases List.mem_append.mp hx with hx | hx
  · rcases List.mem_append.mp hx with hx | hx
    · obtain ⟨r, hr, rfl⟩ := List.mem_map.mp hx
      exact rmRow_len s hr
    · obtain ⟨j, hj, rfl⟩ := List.mem_map.mp hx
      exact Nat.le_trans (jnRow_len rfl (s.nm.g j hj) (s.ig j hj)) (by decide)
  · obtain ⟨j, hj, rfl⟩ := List.mem_map.mp hx
    exact Nat.le_trans (jnRow_len rfl (s.nm.c j hj) (s.ic j hj)) (by decide)
theorem rows_count (h : RLaw rs gs cs) : 1 ≤ (rowsR ⟨rs, gs, cs⟩).length ∧ (rowsR ⟨rs, gs, cs⟩).length = rs.length + gs.length + cs.length ∧ (rowsR ⟨rs, gs, cs⟩).length ≤ 8 := by
  have h1 := h.nr; have h2 := h.lg; have h3 := h.lc
  have e : (rowsR ⟨rs, gs, cs⟩).length = rs.length + gs.length + cs.length := by
    unfold rowsR
    simp only [List.length_append, List.length_map]
  omega
theorem join_small {l : List Str} (h : ∀ x ∈ l, x.length ≤ 260) (n : l.length ≤ 20) : (l.map (·.length)).sum + l.length * nl.length ≤ 30000 ∧ (Txt.join nl l).length ≤ 30000 := by
  have a := sum_le (f := fun x : Str => x.length) (c := 260) h
  have b : (l.map (·.length)).sum + l.length * nl.length ≤ 30000 := by rw [nl_len]; omega
  exact ⟨b, Nat.le_trans (join_len _ _) b⟩
/-- the rows with one bent -/
theorem read_bent (h : RLaw rs gs cs) {i : Nat} (hi : i < (rowsR ⟨rs, gs, cs⟩).length) {x : Str} (hx : x ∈ badX ++ badY) : rdText (Txt.join nl ((rowsR ⟨rs, gs, cs⟩).take i ++ x :: (rowsR ⟨rs, gs, cs⟩).drop (i + 1))) = .inr i := by
  obtain ⟨bx, bl, bn⟩ := bad_rows x hx
  unfold rdText
  rw [split_nl (by simp) fun y hy => by
    rcases List.mem_append.mp hy with hy | hy
    · exact rows_no h y (List.mem_of_mem_take hy)
    · rcases List.mem_cons.mp hy with rfl | hy
      · exact bn
      · exact rows_no h y (List.mem_of_mem_drop hy)]
  have tk : (rowsR ⟨rs, gs, cs⟩).take i = ((rs.take i).map rmRow ++ (gs.take (i - rs.length)).map (jnRow gongS)) ++ (cs.take (i - rs.length - gs.length)).map (jnRow callS) := by
    unfold rowsR
    rw [List.take_append, List.take_append, List.length_append, List.length_map, List.length_map, List.map_take, List.map_take, List.map_take, Nat.sub_sub]
  obtain ⟨last, _, _, e⟩ := rd_some h (r1 := rs.take i) (g1 := gs.take (i - rs.length)) (c1 := cs.take (i - rs.length - gs.length)) (fun _ m => List.mem_of_mem_take m) (fun _ m => List.mem_of_mem_take m) (fun _ m => List.mem_of_mem_take m) (x :: (rowsR ⟨rs, gs, cs⟩).drop (i + 1))
  rw [tk]
  refine e.trans ?_
  rw [bad_row bx]
  have c := (rows_count h).2.1
  rw [c] at hi
  simp only [List.length_take]
  congr 1
  omega
theorem read_other (h : RLaw rs gs cs) (ne : gs ++ cs ≠ []) : rdText (Txt.join nl (rowsR ⟨rs, gs, cs⟩ ++ [otherS])) = .inr (rowsR ⟨rs, gs, cs⟩).length := by
  unfold rdText
  rw [split_nl (by simp) fun y hy => by
    rcases List.mem_append.mp hy with hy | hy
    · exact rows_no h y hy
    · rw [List.mem_singleton.mp hy]; exact other_word.2.2.2.2]
  obtain ⟨last, l1, l2, e⟩ := rd_some h (fun _ h => h) (fun _ h => h) (fun _ h => h) [otherS]
  refine e.trans ?_
  rw [rdRows_cons, other_word.1]
  have m : mayB last roomW = false := by
    rcases l1 with rfl | rfl | rfl
    · exact absurd rfl (l2 ne)
    · exact other_word.2.1
    · exact other_word.2.2.1
  rw [if_pos m, (rows_count h).2.1]
end
def tx1 : Str := Str.ofString "room a ding\ncall a 1 b 1"
def tx2 : Str := Str.ofString "room a dong ding"
def rd1 : RD := ⟨[(Str.ofString "a", [[Str.ofString "ding"]])], [], [((Str.ofString "a", 1), (Str.ofString "b", 1))]⟩
def rd2 : RD := ⟨[(Str.ofString "a", [[Str.ofString "dong", Str.ofString "ding"]])], [], []⟩
theorem read_1 : rdText tx1 = .inl rd1 := by decide +kernel
theorem read_2 : rdText tx2 = .inl rd2 := by decide +kernel
theorem err_rd1 : rmErr (.list (rd1.rooms.map rmD)) (.list (rd1.gongs.map jnD)) (.list (rd1.calls.map jnD)) = some 2 := by decide +kernel
theorem err_rd2 : rmErr (.list (rd2.rooms.map rmD)) (.list (rd2.gongs.map jnD)) (.list (rd2.calls.map jnD)) = some 0 := by decide +kernel
theorem small_tx : (tx1.length ≤ 30000 ∧ (Txt.split tx1 nl).length ≤ 100 ∧ ∀ x ∈ Txt.split tx1 nl, x.length ≤ 900) ∧ (tx2.length ≤ 30000 ∧ (Txt.split tx2 nl).length ≤ 100 ∧ ∀ x ∈ Txt.split tx2 nl, x.length ≤ 900) := by decide +kernel
end R0

namespace R0
open PySem PySem.Spec PyProof.Rows L2 Hb St Sq Ow En Zp RZ Rd Xb Da Wa LamX Lc Ty Gu Sm
local macro_rules | `(tactic| walk_at "lt") => `(tactic| repeat (first
  | exact LtA.nil
  | exact LtE.c CD.non
  | exact LtE.c (CD.int _)
  | exact LtE.c (CD.str _)
  | exact LtE.var rfl (by assumption)
  | refine LtA.cons ?_ ?_
  | refine LtE.lst ?_ (by simp)
  | refine LtE.tup ?_ (by simp)))
def cutN {α : Type} (xs : List α) (i j : Option Nat) : List α := match j with
  | some j => (xs.take j).drop (i.getD 0)
  | none => xs.drop (i.getD 0)
theorem cutV_N (xs : List V) (i j : Option Nat) : cutV xs (i.map fun n => ((n : Nat) : Int)) (j.map fun n => ((n : Nat) : Int)) = cutN xs i j := by
  have hi : HT.sIx xs.length 0 (i.map fun n => ((n : Nat) : Int)) = min (i.getD 0) xs.length := by
    cases i with
    | none => show HT.sIx _ _ none = _; rw [HT.sIx_none]; simp
    | some i => exact HT.sIx_nat _ _ _
  have dr : xs.drop (min (i.getD 0) xs.length) = xs.drop (i.getD 0) := by
    rcases Nat.le_total (i.getD 0) xs.length with h | h
    · rw [Nat.min_eq_left h]
    · rw [Nat.min_eq_right h, List.drop_length, List.drop_eq_nil_of_le h]
  unfold cutV
  rw [hi, dr]
  cases j with
  | none =>
    show (xs.drop _).take (HT.sIx xs.length xs.length none - _) = xs.drop _
    rw [HT.sIx_none, List.take_of_length_le]
    rw [List.length_drop]; omega
  | some j =>
    show (xs.drop _).take (HT.sIx xs.length xs.length (some (j : Int)) - _) = (xs.take j).drop _
    rw [HT.sIx_nat, List.drop_take]
    rcases Nat.le_total (i.getD 0) xs.length with h | h
    · rcases Nat.le_total j xs.length with g | g
      · rw [Nat.min_eq_left g, Nat.min_eq_left h]
      · rw [Nat.min_eq_right g, Nat.min_eq_left h, List.take_of_length_le (by rw [List.length_drop]; omega), List.take_of_length_le (by rw [List.length_drop]; omega)]
    · rw [List.drop_eq_nil_of_le h]; simp

section
variable {P : Program} {w : World} {K : PySem.W.Frag} {mg : Str → Option Value} {base : Heap}
theorem ok_lread {f c Pt C CR CT CN B g eg ec : Addr} {T : List (Addr × Str)} {oc : Value} {od an : Option Addr} {osl : Array (Option Value)} {kV doc pm ct : Value}
    (lk : K.lookup f = some ⟨oc, od, .func (PySem.W.fnOf "_law_read" "_law_read" (defArgs s__law_read) (defBody s__law_read) (defScope s__law_read) .none kV doc pm an (.ref c) ct), osl⟩) (cd : PySem.W.codeIn K (.ref c) "_law_read" = true) (TB : TabB base mg c Pt)
    (inT : (Pt, qRead) ∈ T) (one : ∀ y ∈ T, y.1 = Pt → y.2 = qRead) (C__law_text : Cl P w K mg base "_law_text" ["rooms", "gongs", "calls"] [] 1 (spLText K)) (C__law_draw : Cl P w K mg base "_law_draw" ["deal", "bound"] [] 1 spDraw) (g_Rooms : mg "Rooms" = some (.ref C)) (C__law_pick : Cl P w K mg base "_law_pick" ["deal", "some"] [] 2 (spPick K)) (L : LawC P w K mg base C CR CT CN B g eg ec) :
    FnG P w K mg base CX0 10 f (PySem.W.fnOf "_law_read" "_law_read" (defArgs s__law_read) (defBody s__law_read) (defScope s__law_read) .none kV doc pm an (.ref c) ct) ["deal", "rooms", "gongs", "calls"] (spRefused K T) := by
  obtain ⟨fdg, ⟨⟨ocg, odg, kVg, docg, pmg, ang, cdvg, ctg, oslg, rfl, lkg, cdg'⟩, kpg⟩, bg⟩ := L.wr
  have mwr := L.mwr
  have W3 := L.W3
  have TC := L.TC
  have M_Rooms := L.mkR
  have SM_read := L.rd
  have DX_many_lots := L.many
  have DKX_many_lots_name := L.manyK
  have DX_lot_of := L.lot
  have DKX_lot_of_step := L.lotK
  have DX_step_of := L.stp
  have DKX_step_of_turn_bell_name := L.stpK
  have n_len := L.n_len
  have n_range := L.n_range
  have n_repr := L.n_repr
  have n_enumerate := L.n_enumerate
  have DX_with_gong := L.wg
  have DX_with_call := L.wc
  refine goC lk cd sc__law_read (fun vs H Q E h => ?_) (fun A outer s H vs Q E hr fr h => ?_)
  · obtain ⟨_, _, _, _, _, _, _, _, rfl, _⟩ := h
    rfl
  · obtain ⟨p, l, a, b, c', rs, gs, cs, rfl, dl, na, nb, nc, la, lb, lc, rl, tb, q⟩ := h
    refine ⟨_, (pss_cons (ps_set (i := 7) sc__law_read.nd rfl (Or.inr rfl) (pe_split (pe_use C__law_text (hr.mono (by decide)) rfl (pa_cons (pv 1) (pa_cons (pv 2) (pa_cons (pv 3) pa_nil)))) pe_str))
    (pss_cons (ps_set (i := 4) sc__law_read.nd rfl (Or.inl rfl) (pe_use C__law_draw (hr.mono (by decide)) rfl (pa_cons (pv 0) (pa_cons (pe_callB call_len_seq (by rfl) n_len PySem.boot_len (pa_cons (pv 7) pa_nil)) pa_nil))))
    (pss_cons (ps_set (i := 5) sc__law_read.nd rfl (Or.inl rfl) (pe_lst (pa_cons pe_str (pa_cons pe_str (pa_cons pe_str (pa_cons pe_str (pa_cons pe_str (pa_cons pe_str (pa_cons pe_str (pa_cons pe_str (pa_cons pe_str pa_nil)))))))))))
    (pss_cons (ps_set (i := 5) sc__law_read.nd rfl (Or.inl rfl) (pe_op op_cat (pv 5) (pe_lst (pa_cons pe_str (pa_cons pe_str (pa_cons pe_str (pa_cons pe_str (pa_cons pe_str (pa_cons pe_str (pa_cons pe_str pa_nil))))))))))
    (pss_cons (ps_set (i := 6) sc__law_read.nd rfl (Or.inr rfl) (pe_joinK K rfl pe_str (pe_op op_cat (pe_op op_cat (pe_slice (r := rSlL K) sl_list (pv 7) po_none (po_some (pv 4))) (pe_lst (pa_cons (pe_use C__law_pick (hr.mono (by decide)) rfl (pa_cons (pv 0) (pa_cons (pv 5) pa_nil))) pa_nil))) (pe_slice (r := rSlL K) sl_list (pv 7) (po_some (pe_op op_add (pv 4) pe_int)) po_none))))
    (Evl.pss_cut (ps_if (pt_cmpR (op_neD hr.units) (pe_lamcall (T := T) (t := _) (TT := TWrong K CR CT CN) (k := 7) (a := "work") (Ng := ["work", "e"]) rfl mwr kpg lkg cdg' bg sc__law_wrong rfl (.inl rfl) (wrong_gives W3 fr (un_le hr)) TB rfl inT one (hr.mono (by decide)) (lamS_by rfl) rfl (fun _ _ _ _ _ => rfl) (fun A outer s H E f c' hr2 => pe_readL SM_read (hr2.mono (by decide)) (passes_call (takes_of rfl rfl rfl rfl) (fun _ _ _ _ h => h)) (pe_glob (v := .ref C) (by rfl) g_Rooms rfl) (pa_cons (pv 6) pa_nil))) (pe_tup (pa_cons pe_str (pa_cons (pv 4) pa_nil))) (nomark _)) (pss_one (ps_ret pe_bl)) pss_nil)
    (Evl.pss_cut (ps_if (PW.pt (pw_and (pt_cmpR (op_neD hr.units) (pe_op op_cat (pv 2) (pv 3)) (pe_lst pa_nil) (nomark _)) (pw_and1 (pt_cmpR (op_neD hr.units) (pe_lamcall (T := T) (t := _) (TT := TWrong K CR CT CN) (k := 7) (a := "work") (Ng := ["work", "e"]) rfl mwr kpg lkg cdg' bg sc__law_wrong rfl (.inl rfl) (wrong_gives W3 fr (un_le hr)) TB rfl inT one (hr.mono (by decide)) (lamS_by rfl) rfl (fun _ _ _ _ _ => rfl) (fun A outer s H E f c' hr2 => pe_readL SM_read (hr2.mono (by decide)) (passes_call (takes_of rfl rfl rfl rfl) (fun _ _ _ _ h => h)) (pe_glob (v := .ref C) (by rfl) g_Rooms rfl) (pa_cons (pe_joinK K rfl pe_str (pe_op op_cat (pv 7) (pe_lst (pa_cons pe_str pa_nil)))) pa_nil))) (pe_tup (pa_cons pe_str (pa_cons (pe_callB call_len_seq (by rfl) n_len PySem.boot_len (pa_cons (pv 7) pa_nil)) pa_nil))) (nomark _))))) (pss_one (ps_ret pe_bl)) pss_nil)
    (Evl.pss_cut (ps_if (pt_cmpR (op_neD hr.units) (pe_lamcall (T := T) (t := _) (TT := TWrong K CR CT CN) (k := 7) (a := "work") (Ng := ["work", "e"]) rfl mwr kpg lkg cdg' bg sc__law_wrong rfl (.inl rfl) (wrong_gives W3 fr (un_le hr)) TB rfl inT one (hr.mono (by decide)) (lamS_by rfl) rfl (fun _ _ _ _ _ => rfl) (fun A outer s H E f c' hr2 => pe_readL SM_read (hr2.mono (by decide)) (passes_call (takes_of rfl rfl rfl rfl) (fun _ _ _ _ h => h)) (pe_glob (v := .ref C) (by rfl) g_Rooms rfl) (pa_cons pe_str pa_nil))) (pe_tup (pa_cons pe_str (pa_cons pe_int pa_nil))) (nomark _)) (pss_one (ps_ret pe_bl)) pss_nil)
    (Evl.pss_cut (ps_if (pt_cmpR (op_neD hr.units) (pe_lamcall (T := T) (t := _) (TT := TWrong K CR CT CN) (k := 7) (a := "work") (Ng := ["work", "e"]) rfl mwr kpg lkg cdg' bg sc__law_wrong rfl (.inl rfl) (wrong_gives W3 fr (un_le hr)) TB rfl inT one (hr.mono (by decide)) (lamS_by rfl) rfl (fun _ _ _ _ _ => rfl) (fun A outer s H E f c' hr2 => pe_readL SM_read (hr2.mono (by decide)) (passes_call (takes_of rfl rfl rfl rfl) (fun _ _ _ _ h => h)) (pe_glob (v := .ref C) (by rfl) g_Rooms rfl) (pa_cons pe_str pa_nil))) (pe_tup (pa_cons pe_str (pa_cons pe_int pa_nil))) (nomark _)) (pss_one (ps_ret pe_bl)) pss_nil)
    (pss_one (ps_ret (pe_cmpR (op_eqD hr.units) (pe_lamcall (T := T) (t := _) (TT := TWrong K CR CT CN) (k := 7) (a := "work") (Ng := ["work", "e"]) rfl mwr kpg lkg cdg' bg sc__law_wrong rfl (.inl rfl) (wrong_gives W3 fr (un_le hr)) TB rfl inT one (hr.mono (by decide)) (lamS_by rfl) rfl (fun _ _ _ _ _ => rfl) (fun A outer s H E f c' hr2 => pe_readL SM_read (hr2.mono (by decide)) (passes_call (takes_of rfl rfl rfl rfl) (fun _ _ _ _ h => h)) (pe_glob (v := .ref C) (by rfl) g_Rooms rfl) (pa_cons (pe_use C__law_pick (hr2.mono (by decide)) (by rfl) (pa_cons (pv 0) (pa_cons (pe_lst (pa_cons pe_non (pa_cons pe_int (pa_cons (pe_lst (pa_cons pe_str pa_nil)) (pa_cons (pe_tup (pa_cons pe_str pa_nil)) pa_nil))))) pa_nil))) pa_nil))) (pe_tup (pa_cons pe_str (pa_cons (pe_op op_sub pe_int pe_int) pa_nil))) (nomark _))))))))))))), ?_⟩
    have sm := law_sm rl
    have rc := rows_count rl
    have rlen := row_len rl
    let rows := rowsR ⟨rs, gs, cs⟩
    refine ⟨_, rfl, _, rfl, _, rfl, a, b, c', ⟨rs, gs, cs⟩, rfl, la, lb, lc, sm, fun H1 s1 => ?_⟩
    refine ⟨⟨_, rfl⟩, textR ⟨rs, gs, cs⟩, nl, rfl, rfl, rfl, by rw [sizeLine_eq]; have := (join_small rlen (by omega)).2; show (Txt.join nl (rowsR ⟨rs, gs, cs⟩)).length + 2 ≤ _; omega, ?_⟩
    rw [text_rows rl]
    intro ln hln
    have s2 := same_new hln (.lst (rows.map V.str))
    have eln : upd H1 ln (.lst (rows.map V.str)) ln = some (.lst (rows.map V.str)) := upd_same
    generalize upd H1 ln (.lst (rows.map V.str)) = H2 at s2 eln ⊢
    have s02 := s1.trans s2
    have d2 := dl.same s02
    have nln := deal_ne (dl.same s1) hln
    have lrows : (rows.map V.str).length = rows.length := List.length_map ..
    have rc1 : 1 ≤ rows.length := rc.1
    have rc8 : rows.length ≤ 8 := rc.2.2
    refine ⟨_, rfl, _, rfl, ln, _, rfl, .inl (SqL.of eln), p, l, (((rows.map V.str).length : Nat) : Int), rfl, ⟨by rw [lrows]; omega, by rw [lrows]; omega⟩, d2, fun d H3 dp0 dp1 k3 d3 => ?_⟩
    rw [lrows] at dp1
    obtain ⟨i, rfl⟩ := Int.eq_ofNat_of_zero_le dp0
    have hi : i < rows.length := by omega
    have t3 := tabs_two (tb.ext s02) d2 k3
    refine nx_mk ?_
    refine lt_seq (K := K) (H0 := H3) (p := p) (l := l) (ds := badX.map PyData.str) (by walk_at "lt") (by show 9 ≤ 100; decide) (KpX.refl _ _ _) d3 fun a1 xs1 H4 s4 h1 e1 al1 => ?_
    refine cat_seq (K := K) (H0 := H3) (p := p) (l := l) (es := badY.map PyData.str) rfl (by walk_at "lt") (by show 7 ≤ 100; decide) (KpX.same s4) (d3.same s4) e1 al1 (by show 9 ≤ 100; decide) fun a2 ys2 H5 s5 h2 e2 al2 => ?_
    have s35 := s4.trans s5
    have d5 := d3.same s35
    have eln3 := k3 _ _ eln nln.1 nln.2
    have eln5 := s35 _ _ eln3
    have al2 : All2 (Nd K p l H5) (xs1 ++ ys2) ((badX ++ badY).map PyData.str) := al2
    have l2 : (xs1 ++ ys2).length = 16 := al2.len
    have na2 := deal_ne (d3.same s4) h2
    refine ⟨⟨_, rfl⟩, _, rfl, _, rfl, _, rfl, ln, _, rfl, SqL.of eln5, fun q1 h1 => ?_⟩
    have ct := cutV_N (rows.map V.str) none (some i)
    have ct : cutV (rows.map V.str) none (some ((i : Nat) : Int)) = (rows.take i).map V.str := by rw [List.map_take]; exact ct
    have ct2 := cutV_N (rows.map V.str) (some (i + 1)) none
    have ct2 : cutV (rows.map V.str) (some (((i : Nat) : Int) + 1)) none = (rows.drop (i + 1)).map V.str := by rw [List.map_drop]; exact ct2
    rw [ct]
    have z1 := same_new h1 (.lst ((rows.take i).map V.str))
    have f1 : upd H5 q1 (.lst ((rows.take i).map V.str)) q1 = some (.lst ((rows.take i).map V.str)) := upd_same
    generalize upd H5 q1 (.lst ((rows.take i).map V.str)) = H6 at z1 f1 ⊢
    have d6 := d5.same z1
    have nq1 := deal_ne d5 h1
    refine ⟨_, rfl, _, rfl, p, l, a2, _, rfl, d6, fun H' k => SqX.lst (k _ _ (z1 _ _ e2) na2.1 na2.2), ⟨by rw [l2]; decide, by rw [l2]; decide⟩, fun xv H7 hxv k7 d7 => ?_⟩
    obtain ⟨xd, hxd, nxd⟩ := all2_memL al2 hxv
    obtain ⟨x, hx, rfl⟩ := List.mem_map.mp hxd
    cases nxd.dp
    obtain ⟨bx, bl, bn⟩ := bad_rows x hx
    refine ⟨by show 1 ≤ sizeLine; decide, fun q2 h2 => ?_⟩
    have z2 := same_new h2 (.lst [V.str x])
    have f2 : upd H7 q2 (.lst [V.str x]) q2 = some (.lst [V.str x]) := upd_same
    have d7' := d7.same z2
    generalize upd H7 q2 (.lst [V.str x]) = H8 at z2 f2 d7' ⊢
    have f1' := z2 _ _ (k7 _ _ f1 nq1.1 nq1.2)
    have eln8 := z2 _ _ (k7 _ _ (z1 _ _ eln5) nln.1 nln.2)
    have tkl := List.length_take_le' i rows
    have drl : (rows.drop (i + 1)).length ≤ rows.length := by rw [List.length_drop]; omega
    refine ⟨q1, q2, _, _, rfl, rfl, f1', f2, by rw [List.length_map, sizeLine_eq]; show _ + 1 ≤ _; omega, fun q3 h3 => ?_⟩
    have z3 := same_new h3 (.lst ((rows.take i).map V.str ++ [V.str x]))
    have f3 : upd H8 q3 (.lst ((rows.take i).map V.str ++ [V.str x])) q3 = some (.lst ((rows.take i).map V.str ++ [V.str x])) := upd_same
    generalize upd H8 q3 (.lst ((rows.take i).map V.str ++ [V.str x])) = H9 at z3 f3 ⊢
    refine ⟨_, rfl, _, rfl, _, _, rfl, rfl, _, rfl, ln, _, rfl, SqL.of (z3 _ _ eln8), fun q4 h4 => ?_⟩
    rw [ct2]
    have z4 := same_new h4 (.lst ((rows.drop (i + 1)).map V.str))
    have f4 : upd H9 q4 (.lst ((rows.drop (i + 1)).map V.str)) q4 = some (.lst ((rows.drop (i + 1)).map V.str)) := upd_same
    generalize upd H9 q4 (.lst ((rows.drop (i + 1)).map V.str)) = H10 at z4 f4 ⊢
    refine ⟨q3, q4, _, _, rfl, rfl, z4 _ _ f3, f4, by rw [List.length_append, List.length_map, List.length_map, sizeLine_eq]; show _ + 1 + _ ≤ _; omega, fun q5 h5 => ?_⟩
    let bent : List Str := rows.take i ++ x :: rows.drop (i + 1)
    have eb : (rows.take i).map V.str ++ [V.str x] ++ (rows.drop (i + 1)).map V.str = bent.map V.str := by
      show _ = (rows.take i ++ x :: rows.drop (i + 1)).map V.str
      rw [List.map_append, List.map_cons, List.append_assoc]; rfl
    rw [eb]
    have z5 := same_new h5 (.lst (bent.map V.str))
    have f5 : upd H10 q5 (.lst (bent.map V.str)) q5 = some (.lst (bent.map V.str)) := upd_same
    generalize upd H10 q5 (.lst (bent.map V.str)) = H11 at z5 f5 ⊢
    have bl260 : ∀ y ∈ bent, y.length ≤ 260 := fun y hy => by
      rcases List.mem_append.mp hy with hy | hy
      · exact rlen y (List.mem_of_mem_take hy)
      · rcases List.mem_cons.mp hy with rfl | hy
        · omega
        · exact rlen y (List.mem_of_mem_drop hy)
    have bcnt : bent.length ≤ 20 := by
      show (rows.take i ++ x :: rows.drop (i + 1)).length ≤ 20
      rw [List.length_append, List.length_cons]
      omega
    obtain ⟨bs1, bs2⟩ := join_small bl260 bcnt
    refine ⟨nl, q5, bent, rfl, rfl, .inl (SqL.of f5), Nat.le_trans bs1 (by decide), ?_⟩
    have zz := ((z2.trans z3).trans z4).trans z5
    have k11 : KpX p l H3 H11 := ((KpX.same s35).trans ((KpX.same z1).trans (KpX.two k7))).trans (KpX.same zz)
    have d11 := d7.same zz
    have t11 := (tabs_two ((t3.ext s35).ext z1) d6 k7).ext zz
    have kH : KpX p l H H11 := ((KpX.same s02).trans (KpX.two k3)).trans k11
    have eln11 := ((z3.trans z4).trans z5) _ _ eln8
    have rb := read_bent rl hi hx
    have bno : ∀ y ∈ bent, 10 ∉ TL.tl y := fun y hy => by
      rcases List.mem_append.mp hy with hy | hy
      · exact rows_no rl y (List.mem_of_mem_take hy)
      · rcases List.mem_cons.mp hy with rfl | hy
        · exact bn
        · exact rows_no rl y (List.mem_of_mem_drop hy)
    have bsp : Txt.split (Txt.join nl bent) nl = bent := split_nl (by show rows.take i ++ x :: rows.drop (i + 1) ≠ []; simp) bno
    have nGs : ListAt K H11 b jnD gs := by
      obtain ⟨ys, e, al⟩ := lb
      exact ⟨ys, kH _ _ e nb.1 nb.2 notbl_l, al.imp fun _ _ g => dp_kp dl kH (noL_jn _) g⟩
    have nCs : ListAt K H11 c' jnD cs := by
      obtain ⟨ys, e, al⟩ := lc
      exact ⟨ys, kH _ _ e nc.1 nc.2 notbl_l, al.imp fun _ _ g => dp_kp dl kH (noL_jn _) g⟩
    clear f1 f1' f2 f3 f4 f5 eln8 eln5 eln3 eln z1 z2 z3 z4 z5 zz h1 h2 h3 h4 h5 e1 e2 al1 al2 s4 s5 s35 d2 d3 d5 d6 d7 d7' k7 k3 t3 k11 hxv hxd nq1 na2 eb l2 tkl drl ct ct2 s1 s2 s02 hln
    refine ⟨fun σ H' => σ = [some (.ref p), some (.ref a), some (.ref b), some (.ref c'), some (.int ((i : Nat) : Int)), some (.ref a2), some (.str (Txt.join nl bent)), some (.ref ln)] ∧ KpX p l H11 H' ∧ DealAt H' p l ∧ Tabs T H', ?_, ?_⟩
    · refine ⟨t11, fun H7 x7 t7 => ?_⟩
      refine ⟨rfl, _, rfl, .str (Txt.join nl bent), .str (Txt.join nl bent), rfl, .str _, fun no => (by cases no), fun t et => ?_⟩
      cases et
      refine ⟨bs2, by rw [bsp]; omega, by rw [bsp]; exact fun y hy => Nat.le_trans (bl260 y hy) (by decide), fun k ek dd HB sB eB => ?_, fun R hR => ?_⟩
      · have ek : Sum.inr i = Sum.inr k := rb.symm.trans ek
        obtain rfl : i = k := Sum.inr.inj ek
        refine told_text eB fun u1 HC sC e1' => ⟨_, rfl, by show 2 ≤ sizeLine; decide, fun u2 hu2 => ?_⟩
        have sD := same_new hu2 (.tup [V.str textS, .int ((i : Nat) : Int)])
        have sAll := (sB.trans sC).trans sD
        exact rne_si (i := ((i : Nat) : Int)) low_text (sD _ _ e1') upd_same ⟨_, rfl, iteF ⟨rfl, (KpX.ext x7).trans (KpX.same sAll), (d11.ext x7).same sAll, t7.ext sAll⟩⟩
      · have hR : Sum.inr i = Sum.inl R := rb.symm.trans hR
        cases hR
    rintro σ G1 ⟨rfl, kA, dA, tA⟩
    refine ⟨fun σ H' => σ = [some (.ref p), some (.ref a), some (.ref b), some (.ref c'), some (.int ((i : Nat) : Int)), some (.ref a2), some (.str (Txt.join nl bent)), some (.ref ln)] ∧ KpX p l H11 H' ∧ DealAt H' p l ∧ Tabs T H', ?_, ?_⟩
    · obtain ⟨ys, ey, aly⟩ := nGs
      obtain ⟨zs, ez, alz⟩ := nCs
      have ey1 := kA _ _ ey nb.1 nb.2 notbl_l
      have ez1 := kA _ _ ez nc.1 nc.2 notbl_l
      have ly := aly.len
      have lz := alz.len
      have lg3 := rl.lg
      have lc3 := rl.lc
      refine ⟨_, rfl, _, rfl, b, c', ys, zs, rfl, rfl, ey1, ez1, by rw [sizeLine_eq]; omega, fun q1 h1 => ⟨by show 0 ≤ sizeLine; decide, fun t ht => ?_⟩⟩
      have s1 := same_new h1 (.lst (ys ++ zs))
      have e1 : upd G1 q1 (.lst (ys ++ zs)) q1 = some (.lst (ys ++ zs)) := upd_same
      generalize upd G1 q1 (.lst (ys ++ zs)) = H3 at s1 e1 ht ⊢
      have s2 := same_new ht (.lst [])
      have e2 : upd H3 t (.lst []) t = some (.lst []) := upd_same
      generalize upd H3 t (.lst []) = H4 at s2 e2 ⊢
      have s12 := s1.trans s2
      have k4 : KpX p l H11 H4 := kA.trans (KpX.same s12)
      have d4 := dA.same s12
      have t4 := tA.ext s12
      have al4 : All2 (fun v j => Dp K H4 v (jnD j)) (ys ++ zs) (gs ++ cs) := (aly.imp fun _ _ g => dp_kp d11 k4 (noL_jn _) g).app (alz.imp fun _ _ g => dp_kp d11 k4 (noL_jn _) g)
      refine rd_neD (s2 _ _ e1) al4 eqv_jn ((sh_lst fun j hj => sh_jn ?_).ok (by decide)) e2 ⟨_, rfl, ?_⟩
      · rcases List.mem_append.mp hj with hj | hj
        · exact sm.nm.g j hj
        · exact sm.nm.c j hj
      refine iteN (fun ne => ?_) fun _ => iteF ⟨rfl, k4, d4, t4⟩
      refine ⟨t4, fun H7 x7 t7 => ?_⟩
      have k7 : KpX p l H11 H7 := k4.trans (KpX.ext x7)
      have eln7 := k7 _ _ eln11 nln.1 nln.2 notbl_l
      refine ⟨rfl, ⟨_, rfl⟩, _, rfl, by show 1 ≤ sizeLine; decide, fun q2 h2 => ?_⟩
      have z2 := same_new h2 (.lst [V.str otherS])
      have f2 : upd H7 q2 (.lst [V.str otherS]) q2 = some (.lst [V.str otherS]) := upd_same
      have eO : (.str otherS : V) = .str (Str.ofString "room other") := rfl
      rw [← eO]
      generalize upd H7 q2 (.lst [V.str otherS]) = H8 at z2 f2 ⊢
      refine ⟨ln, q2, _, _, rfl, rfl, z2 _ _ eln7, f2, by rw [List.length_map, sizeLine_eq]; show _ + 1 ≤ _; omega, fun q3 h3 => ?_⟩
      have eb : rows.map V.str ++ [V.str otherS] = (rows ++ [otherS]).map V.str := by rw [List.map_append]; rfl
      rw [eb]
      have z3 := same_new h3 (.lst ((rows ++ [otherS]).map V.str))
      have f3 : upd H8 q3 (.lst ((rows ++ [otherS]).map V.str)) q3 = some (.lst ((rows ++ [otherS]).map V.str)) := upd_same
      generalize upd H8 q3 (.lst ((rows ++ [otherS]).map V.str)) = H9 at z3 f3 ⊢
      have ol : ∀ y ∈ rows ++ [otherS], y.length ≤ 260 := fun y hy => by
        rcases List.mem_append.mp hy with hy | hy
        · exact rlen y hy
        · rw [List.mem_singleton.mp hy]; have := other_word.2.2.2.1; omega
      have oc : (rows ++ [otherS]).length ≤ 20 := by rw [List.length_append]; show rows.length + 1 ≤ 20; omega
      obtain ⟨bs1', bs2'⟩ := join_small ol oc
      have osp : Txt.split (Txt.join nl (rows ++ [otherS])) nl = rows ++ [otherS] := split_nl (by simp) fun y hy => by
        rcases List.mem_append.mp hy with hy | hy
        · exact rows_no rl y hy
        · rw [List.mem_singleton.mp hy]; exact other_word.2.2.2.2
      have ro := read_other rl ne
      refine ⟨nl, q3, _, rfl, rfl, .inl (SqL.of f3), Nat.le_trans bs1' (by decide), .str (Txt.join nl (rows ++ [otherS])), .str (Txt.join nl (rows ++ [otherS])), rfl, .str _, fun no => (by cases no), fun t et => ?_⟩
      cases et
      refine ⟨bs2', by rw [osp]; omega, by rw [osp]; exact fun y hy => Nat.le_trans (ol y hy) (by decide), fun k ek dd HB sB eB => ?_, fun R hR => ?_⟩
      · have ek : Sum.inr rows.length = Sum.inr k := ro.symm.trans ek
        obtain rfl : rows.length = k := Sum.inr.inj ek
        have z23 := (z2.trans z3).trans sB
        refine told_text eB fun u1 HC sC e1' => ⟨_, rfl, ln, _, rfl, .inl (SqL.of (sC _ _ (z23 _ _ eln7))), by show 2 ≤ sizeLine; decide, fun u2 hu2 => ?_⟩
        rw [← lrows] at e1'
        have sD := same_new hu2 (.tup [V.str textS, .int (((rows.map V.str).length : Nat) : Int)])
        have sAll := ((z23.trans sC).trans sD)
        exact rne_si (i := (((rows.map V.str).length : Nat) : Int)) low_text (sD _ _ e1') upd_same ⟨_, rfl, iteF ⟨rfl, k7.trans (KpX.same sAll), (d4.ext x7).same sAll, t7.ext sAll⟩⟩
      · have hR : Sum.inr rows.length = Sum.inl R := ro.symm.trans hR
        cases hR
    clear kA dA tA
    rintro σ G2 ⟨rfl, kA, dA, tA⟩
    refine ⟨fun σ H' => σ = [some (.ref p), some (.ref a), some (.ref b), some (.ref c'), some (.int ((i : Nat) : Int)), some (.ref a2), some (.str (Txt.join nl bent)), some (.ref ln)] ∧ KpX p l H11 H' ∧ DealAt H' p l ∧ Tabs T H', ?_, ?_⟩
    · refine ⟨tA, fun H7 x7 t7 => ?_⟩
      refine ⟨rfl, .str tx1, .str tx1, rfl, .str _, fun no => (by cases no), fun t et => ?_⟩
      cases et
      refine ⟨small_tx.1.1, small_tx.1.2.1, small_tx.1.2.2, fun k ek => ?_, fun R hR => ?_⟩
      · rw [read_1] at ek; cases ek
      rw [read_1] at hR
      obtain rfl := Sum.inl.inj hR
      refine ⟨fun no => ?_, fun k ek dd HB sB eB => ?_⟩
      · rw [err_rd1] at no; cases no
      rw [err_rd1] at ek
      obtain rfl := Option.some.inj ek
      refine told_rooms eB fun u1 HC sC e1' => ⟨by show 2 ≤ sizeLine; decide, fun u2 hu2 => ?_⟩
      have sD := same_new hu2 (.tup [V.str roomsS, .int 2])
      have sAll := (sB.trans sC).trans sD
      exact rne_si (i := 2) low_rooms (sD _ _ e1') upd_same ⟨_, rfl, iteF ⟨rfl, (kA.trans (KpX.ext x7)).trans (KpX.same sAll), (dA.ext x7).same sAll, t7.ext sAll⟩⟩
    clear kA dA tA
    rintro σ G3 ⟨rfl, kA, dA, tA⟩
    refine ⟨fun σ H' => σ = [some (.ref p), some (.ref a), some (.ref b), some (.ref c'), some (.int ((i : Nat) : Int)), some (.ref a2), some (.str (Txt.join nl bent)), some (.ref ln)] ∧ KpX p l H11 H' ∧ DealAt H' p l ∧ Tabs T H', ?_, ?_⟩
    · refine ⟨tA, fun H7 x7 t7 => ?_⟩
      refine ⟨rfl, .str tx2, .str tx2, rfl, .str _, fun no => (by cases no), fun t et => ?_⟩
      cases et
      refine ⟨small_tx.2.1, small_tx.2.2.1, small_tx.2.2.2, fun k ek => ?_, fun R hR => ?_⟩
      · rw [read_2] at ek; cases ek
      rw [read_2] at hR
      obtain rfl := Sum.inl.inj hR
      refine ⟨fun no => ?_, fun k ek dd HB sB eB => ?_⟩
      · rw [err_rd2] at no; cases no
      rw [err_rd2] at ek
      obtain rfl := Option.some.inj ek
      refine told_rooms eB fun u1 HC sC e1' => ⟨by show 2 ≤ sizeLine; decide, fun u2 hu2 => ?_⟩
      have sD := same_new hu2 (.tup [V.str roomsS, .int 0])
      have sAll := (sB.trans sC).trans sD
      exact rne_si (i := 0) low_rooms (sD _ _ e1') upd_same ⟨_, rfl, iteF ⟨rfl, (kA.trans (KpX.ext x7)).trans (KpX.same sAll), (dA.ext x7).same sAll, t7.ext sAll⟩⟩
    clear kA dA tA
    rintro σ G4 ⟨rfl, kA, dA, tA⟩
    refine ⟨tA, fun H7 x7 t7 => ?_⟩
    have d7 := dA.ext x7
    have k7 : KpX p l H11 H7 := kA.trans (KpX.ext x7)
    refine ⟨rfl, _, rfl, by show 1 ≤ sizeLine; decide, fun q1 h1 => ?_⟩
    have s1 := same_new h1 (.lst [V.str (Str.ofString "room a")])
    have e1 : upd H7 q1 (.lst [V.str (Str.ofString "room a")]) q1 = some (.lst [V.str (Str.ofString "room a")]) := upd_same
    have n1 := deal_ne d7 h1
    generalize upd H7 q1 (.lst [V.str (Str.ofString "room a")]) = H8 at s1 e1 ⊢
    have d8 := d7.same s1
    refine ⟨by show 1 ≤ sizeLine; decide, fun q2 h2 => ?_⟩
    have s2 := same_new h2 (.tup [V.str (Str.ofString "room a")])
    have e2 : upd H8 q2 (.tup [V.str (Str.ofString "room a")]) q2 = some (.tup [V.str (Str.ofString "room a")]) := upd_same
    generalize upd H8 q2 (.tup [V.str (Str.ofString "room a")]) = H9 at s2 e2 ⊢
    have d9 := d8.same s2
    refine ⟨by show 4 ≤ sizeLine; decide, fun q3 h3 => ?_⟩
    have s3 := same_new h3 (.lst [V.non, .int 5, .ref q1, .ref q2])
    have e3 : upd H9 q3 (.lst [V.non, .int 5, .ref q1, .ref q2]) q3 = some (.lst [V.non, .int 5, .ref q1, .ref q2]) := upd_same
    have n3 := deal_ne d9 h3
    generalize upd H9 q3 (.lst [V.non, .int 5, .ref q1, .ref q2]) = HA at s3 e3 ⊢
    have dA' := d9.same s3
    have sA := (s1.trans s2).trans s3
    have nd1 : Nd K p l HA (.ref q1) (.list [.str (Str.ofString "room a")]) := nd_lst n1 (s3 _ _ (s2 _ _ e1)) (.cons (nd_str _) .nil)
    have nd2 : Nd K p l HA (.ref q2) (.tuple [.str (Str.ofString "room a")]) := nd_tup dA' (s3 _ _ e2) (.cons (nd_str _) .nil)
    refine ⟨p, l, q3, _, rfl, dA', fun H' k => SqX.lst (k _ _ e3 n3.1 n3.2), ⟨by show 1 ≤ 4; decide, by show 4 ≤ 1000; decide⟩, fun x HB hx kB dB => ?_⟩
    have tB := tabs_two (t7.ext sA) dA' kB
    have kBB : KpX p l H11 HB := (k7.trans (KpX.same sA)).trans (KpX.two kB)
    obtain ⟨d, dx, ns⟩ : ∃ d, Dp K HB x d ∧ strD d = false := by
      simp only [List.mem_cons, List.mem_nil_iff, or_false] at hx
      rcases hx with rfl | rfl | rfl | rfl
      · exact ⟨_, .non, rfl⟩
      · exact ⟨_, .int 5, rfl⟩
      · exact ⟨_, (nd1.on (KpX.two kB)).dp, rfl⟩
      · exact ⟨_, (nd2.on (KpX.two kB)).dp, rfl⟩
    refine ⟨x, d, rfl, dx, fun _ dd HC sC eC => ?_, fun t et => ?_⟩
    · refine told_text eC fun u1 HD sD e1' => ⟨_, _, rfl, rfl, by show 2 ≤ sizeLine; decide, fun u2 hu2 => ?_⟩
      have sE := same_new hu2 (.tup [V.str textS, .int (-1)])
      have sAll := (sC.trans sD).trans sE
      exact req_si (i := -1) low_text (sE _ _ e1') upd_same (q _ ((kH.trans kBB).trans (KpX.same sAll)) (dB.same sAll) (tB.ext sAll))
    · rw [et] at ns; cases ns
end
end R0

/-! what repr shows of nested tuples of small leaves -/
namespace Rp
open PySem PySem.Spec PyProof.Rows L2 Hb St Sq Gu
theorem depthAll_le {n : Nat} : ∀ {l : List PyData}, (∀ d ∈ l, d.depth ≤ n) → PyData.depthAll l ≤ n
  | [], _ => by simp [PyData.depthAll]
  | d :: l, h => by
    have h1 := h d List.mem_cons_self
    have h2 := depthAll_le fun e he => h e (List.mem_cons_of_mem _ he)
    simp only [PyData.depthAll]
    omega
/-! ### what repr shows -/
structure RpOk (d : PyData) : Prop where
  sh : PyData.showable d = true
  nd : PyData.hasDict d = false
  dp : PyData.depth d < 40
  ln : (PyData.shown d).length ≤ sizeLine
theorem rd_repr {K : PySem.W.Frag} {H : Hp} {Q : VK} {v : V} {d : PyData} (h : Dp K H v d) (r : RpOk d) (q : Q (.str (PyData.shown d)) H) : rRepr K [v] H Q := ⟨v, d, rfl, h, r.sh, r.nd, r.dp, r.ln, q⟩
mutual
def sml : PyData → Bool
  | .int i => decide (i.natAbs < 1000)
  | .str s => PyData.strOk s && decide (s.length ≤ 20)
  | .tuple xs => smlA xs
  | _ => false
def smlA : List PyData → Bool
  | [] => true
  | x :: xs => sml x && smlA xs
end
theorem smlA_iff : ∀ {ds : List PyData}, smlA ds = true ↔ ∀ d ∈ ds, sml d = true
  | [] => by simp [smlA]
  | d :: ds => by rw [smlA, Bool.and_eq_true, smlA_iff]; simp
theorem log_small {i : Int} (h : i.natAbs < 1000) : i.natAbs.log2 < 10 := by
  by_cases c : i.natAbs = 0
  · rw [c]; decide
  · exact (Nat.log2_lt c).mpr (by omega)
mutual
theorem sml_all : ∀ d : PyData, sml d = true → PyData.showable d = true ∧ PyData.hasDict d = false ∧ PyData.canLay0 d = true ∧ PyData.intsShort 13 d = true
  | .int i, h => by
    have h : i.natAbs < 1000 := by simpa [sml] using h
    refine ⟨?_, by simp [PyData.hasDict], by simp [PyData.canLay0], ?_⟩
    · simp only [PyData.showable, decide_eq_true_eq]
      have := log_small h
      omega
    · simp only [PyData.intsShort, decide_eq_true_eq]
      exact PyData.shown_int_le (by omega)
  | .str s, h => by
    obtain ⟨h1, h2⟩ : PyData.strOk s = true ∧ s.length ≤ 20 := by simpa [sml] using h
    exact ⟨by simp [PyData.showable], by simp [PyData.hasDict], by simpa [PyData.canLay0] using h1, by simp [PyData.intsShort]⟩
  | .tuple xs, h => by
    obtain ⟨a, b, c, e⟩ := smlA_all xs (by simpa [sml] using h)
    exact ⟨by simpa [PyData.showable] using a, by simpa [PyData.hasDict] using b, by simpa [PyData.canLay0] using c, by simpa [PyData.intsShort] using e⟩
  | .none, h => by simp [sml] at h
  | .bool _, h => by simp [sml] at h
  | .list _, h => by simp [sml] at h
  | .dict _, h => by simp [sml] at h
theorem smlA_all : ∀ ds : List PyData, smlA ds = true → PyData.showableAll ds = true ∧ PyData.hasDictAll ds = false ∧ PyData.canLayAll0 ds = true ∧ PyData.intsShortAll 13 ds = true
  | [], _ => by simp [PyData.showableAll, PyData.hasDictAll, PyData.canLayAll0, PyData.intsShortAll]
  | d :: ds, h => by
    obtain ⟨h1, h2⟩ : sml d = true ∧ smlA ds = true := by simpa [smlA] using h
    obtain ⟨a, b, c, e⟩ := sml_all d h1
    obtain ⟨a2, b2, c2, e2⟩ := smlA_all ds h2
    exact ⟨by simp [PyData.showableAll, a, a2], by simp [PyData.hasDictAll, b, b2], by simp [PyData.canLayAll0, c, c2], by simp [PyData.intsShortAll, e, e2]⟩
end
theorem rp_sml {d : PyData} (h : sml d = true) (hd : d.depth < 40) (hw : d.weight ≤ 2 ^ 20) : RpOk d := by
  obtain ⟨a, b, c, e⟩ := sml_all d h
  exact ⟨a, b, hd, PyData.shown_fits (B := 13) (by decide) (by decide) (PyData.leavesShort_of_canLay0 13 d c e) hw⟩
theorem weightAll_le {n : Nat} : ∀ {l : List PyData}, (∀ d ∈ l, d.weight ≤ n) → PyData.weightAll l ≤ l.length * (n + 1)
  | [], _ => by simp [PyData.weightAll]
  | d :: l, h => by
    have h1 := h d List.mem_cons_self
    have h2 := weightAll_le fun e he => h e (List.mem_cons_of_mem _ he)
    simp only [PyData.weightAll, List.length_cons, Nat.add_mul, Nat.one_mul]
    omega
theorem leaf_w {d : PyData} (h : sml d = true) (hn : ∀ xs, d ≠ .tuple xs) : d.weight ≤ 20 ∧ d.depth ≤ 1 := by
  cases d with
  | int i =>
    have h : i.natAbs < 1000 := by simpa [sml] using h
    have := log_small h
    simp only [PyData.weight, PyData.depth]
    split <;> omega
  | str s =>
    obtain ⟨h1, h2⟩ : PyData.strOk s = true ∧ s.length ≤ 20 := by simpa [sml] using h
    exact ⟨h2, by simp [PyData.depth]⟩
  | tuple xs => exact absurd rfl (hn xs)
  | none => simp [sml] at h
  | bool _ => simp [sml] at h
  | list _ => simp [sml] at h
  | dict _ => simp [sml] at h
/-- small: leaves, weight, depth -/
structure Sml (d : PyData) (n k : Nat) : Prop where
  ok : sml d = true
  w : d.weight ≤ n
  dp : d.depth ≤ k
theorem sml_leaf {d : PyData} (h : sml d = true) (hn : ∀ xs, d ≠ .tuple xs) : Sml d 20 1 := ⟨h, (leaf_w h hn).1, (leaf_w h hn).2⟩
theorem sml_int {i : Int} (h : i.natAbs < 1000) : Sml (.int i) 20 1 := sml_leaf (by simp [sml, h]) (fun _ z => by cases z)
theorem sml_str {s : Str} (h : PyData.strOk s = true) (l : s.length ≤ 20) : Sml (.str s) 20 1 := sml_leaf (by simp [sml, h, l]) (fun _ z => by cases z)
theorem sml_tup {n k m : Nat} {xs : List PyData} (h : ∀ d ∈ xs, Sml d n k) (l : xs.length ≤ m) : Sml (.tuple xs) (m * (n + 1)) (k + 1) := by
  refine ⟨by rw [sml, smlA_iff]; exact fun d hd => (h d hd).ok, ?_, ?_⟩
  · simp only [PyData.weight]
    exact Nat.le_trans (weightAll_le fun d hd => (h d hd).w) (Nat.mul_le_mul_right _ l)
  · have := depthAll_le fun d hd => (h d hd).dp
    simp only [PyData.depth]
    omega
theorem Sml.mono {d : PyData} {n k n' k' : Nat} (s : Sml d n k) (a : n ≤ n') (b : k ≤ k') : Sml d n' k' := ⟨s.ok, Nat.le_trans s.w a, Nat.le_trans s.dp b⟩
theorem Sml.rp {d : PyData} {n k : Nat} (s : Sml d n k) (a : n ≤ 2 ^ 20) (b : k < 40) : RpOk d := rp_sml s.ok (Nat.lt_of_le_of_lt s.dp b) (Nat.le_trans s.w a)
theorem rp_none : RpOk .none := ⟨rfl, rfl, by simp [PyData.depth], Nat.le_trans (show _ ≤ 5 by decide) (by decide)⟩
theorem rp_int {i : Int} (h : i.natAbs < 1000) : RpOk (.int i) := (sml_int h).rp (by decide) (by decide)
end Rp

namespace R0
open PySem PySem.Spec PyProof.Rows L2 Hb St Sq Ow En Zp RZ Rd Xb Da Wa LamX Lc Ty Gu Sm Rp
/-! ### what repr shows of the law's rooms -/
theorem nm_strOk {x : Str} (h : IsNm x) : PyData.strOk x = true := by
  have := (sh_str (n := 0) h).1
  simpa [PyData.canLay0] using this
theorem sml_lot {l : Lot} (h : l.length ≤ 3) (nm : ∀ x ∈ l, IsNm x) : Sml (lD l) 63 2 := by
  refine sml_tup (n := 20) (k := 1) (xs := l.map .str) (m := 3) (fun d hd => ?_) (by rw [List.length_map]; exact h)
  obtain ⟨x, hx, rfl⟩ := List.mem_map.mp hd
  exact sml_str (nm_strOk (nm x hx)) (by have := (nm x hx).2.1; omega)
theorem sml_rm {rs : List Rm} (h : RHalf rs) : ∀ r ∈ rs, Sml (rmD r) 1000 4 := fun r hr => by
  have t : Sml (tD r.2) 192 3 := by
    refine sml_tup (n := 63) (k := 2) (m := 3) (fun d hd => ?_) (by rw [List.length_map]; exact (h.tl r hr).1)
    obtain ⟨l, hl, rfl⟩ := List.mem_map.mp hd
    have := lots7_nm l ((h.tl r hr).2 l hl)
    exact sml_lot this.1 this.2
  refine (sml_tup (n := 192) (k := 3) (m := 2) (fun d hd => ?_) (by show 2 ≤ 2; decide)).mono (by decide) (by decide)
  simp only [List.mem_cons, List.mem_nil_iff, or_false] at hd
  rcases hd with rfl | rfl
  · exact (sml_str (nm_strOk (h.nmR r hr).1) (by have := (h.nmR r hr).1.2.1; omega)).mono (by decide) (by decide)
  · exact t
theorem sml_jn {rs : List Rm} (h : RHalf rs) {js : List Jn} (g : ∀ j ∈ js, j.1 ∈ stepsR rs ∧ j.2 ∈ stepsR rs ∧ j.1.1 ≠ j.2.1) : ∀ j ∈ js, Sml (jnD j) 1000 4 := fun j hj => by
  have st : ∀ s ∈ stepsR rs, Sml (stD s) 42 2 := fun s hs => by
    obtain ⟨a1, a2, a3⟩ := step3 h hs
    refine sml_tup (n := 20) (k := 1) (m := 2) (fun d hd => ?_) (by show 2 ≤ 2; decide)
    simp only [List.mem_cons, List.mem_nil_iff, or_false] at hd
    rcases hd with rfl | rfl
    · exact sml_str (nm_strOk a1) (by have := a1.2.1; omega)
    · have a3 : s.2 = 1 ∨ s.2 = 2 ∨ s.2 = 3 := by simpa using a3
      exact sml_int (by omega)
  refine (sml_tup (n := 42) (k := 2) (m := 2) (fun d hd => ?_) (by show 2 ≤ 2; decide)).mono (by decide) (by decide)
  simp only [List.mem_cons, List.mem_nil_iff, or_false] at hd
  rcases hd with rfl | rfl
  · exact st _ (g j hj).1
  · exact st _ (g j hj).2.1
def all3 (rs : List Rm) (gs cs : List Jn) : PyData := .tuple [.tuple (rs.map rmD), .tuple (gs.map jnD), .tuple (cs.map jnD)]
theorem rp_all {rs : List Rm} {gs cs : List Jn} (h : RLaw rs gs cs) : RpOk (all3 rs gs cs) := by
  have hh := h.half
  refine (sml_tup (n := 3003) (k := 5) (m := 3) (fun d hd => ?_) (by show 3 ≤ 3; decide)).rp (by decide) (by decide)
  simp only [List.mem_cons, List.mem_nil_iff, or_false] at hd
  rcases hd with rfl | rfl | rfl
  · refine sml_tup (n := 1000) (k := 4) (m := 3) (fun d hd => ?_) (by rw [List.length_map]; exact h.nr.2)
    obtain ⟨r, hr, rfl⟩ := List.mem_map.mp hd
    exact sml_rm hh r hr
  · refine sml_tup (n := 1000) (k := 4) (m := 3) (fun d hd => ?_) (by rw [List.length_map]; have := h.lg; omega)
    obtain ⟨r, hr, rfl⟩ := List.mem_map.mp hd
    exact sml_jn hh h.gj r hr
  · refine sml_tup (n := 1000) (k := 4) (m := 3) (fun d hd => ?_) (by rw [List.length_map]; exact h.lc)
    obtain ⟨r, hr, rfl⟩ := List.mem_map.mp hd
    exact sml_jn hh h.cj r hr
end R0

namespace R0
open PySem PySem.Spec PyProof.Rows L2 Hb St Sq Ow En Zp RZ Rd Xb Da Wa LamX Lc Ty Gu Sm Rp
theorem RmAt.kp {K : PySem.W.Frag} {C p l : Addr} {H H' : Hp} {m : Addr} {R : RD} (h : RoomsAt K C H m R) (d : DealAt H p l) (k : KpX p l H H') : RoomsAt K C H' m R := by
  obtain ⟨dx, a, b, c, h0, h1, h2, h3⟩ := h
  have n := d.np h0 fun _ z => by cases z
  refine ⟨dx, a, b, c, k _ _ h0 n.1 n.2 fun ps z => (by cases z), dp_kp d k ?_ h1, dp_kp d k ?_ h2, dp_kp d k ?_ h3⟩
  · simp only [noL]; exact noLs_map noL_rm _
  · simp only [noL]; exact noLs_map noL_jn _
  · simp only [noL]; exact noLs_map noL_jn _
theorem RmAt.fix {K : PySem.W.Frag} {C : Addr} {H H' : Hp} {m : Addr} {R : RD} (h : RoomsAt K C H m R) (k : Fix H H') : RoomsAt K C H' m R := by
  obtain ⟨dx, a, b, c, h0, h1, h2, h3⟩ := h
  refine ⟨dx, a, b, c, k _ _ h0 (by rintro (⟨_, z⟩ | ⟨_, z⟩) <;> cases z), dp_fix k ?_ h1, dp_fix k ?_ h2, dp_fix k ?_ h3⟩
  · simp only [noL]; exact noLs_map noL_rm _
  · simp only [noL]; exact noLs_map noL_jn _
  · simp only [noL]; exact noLs_map noL_jn _
theorem eqO_at {K : PySem.W.Frag} {C m m2 : Addr} {H : Hp} {Q : VK} {R U : RD} (h1 : RoomsAt K C H m R) (h2 : RoomsAt K C H m2 U) (n1 : RNm R) (n2 : RNm U) (q : Q (.bl (decide (R = U))) H) : rEqO C (spEqR K C) (.ref m) (.ref m2) H Q := by
  obtain ⟨dx, a, b, c, e, _⟩ := id h1
  obtain ⟨dy, a', b', c', e', _⟩ := id h2
  exact ⟨m, dx, _, rfl, e, .inl ⟨m2, dy, _, rfl, e'⟩, m, .ref m2, R, rfl, h1, n1, .inl ⟨m2, U, rfl, h2, n2, ⟨_, rfl⟩, q⟩⟩
theorem neO_at {K : PySem.W.Frag} {C m m2 : Addr} {H : Hp} {Q : VK} {R U : RD} (h1 : RoomsAt K C H m R) (h2 : RoomsAt K C H m2 U) (n1 : RNm R) (n2 : RNm U) (q : Q (.bl (!decide (R = U))) H) : rNeO C (spEqR K C) (.ref m) (.ref m2) H Q := by
  obtain ⟨dx, a, b, c, e, _⟩ := id h1
  obtain ⟨dy, a', b', c', e', _⟩ := id h2
  exact ⟨m, dx, _, rfl, e, .inl ⟨m2, dy, _, rfl, e'⟩, m, .ref m2, R, rfl, h1, n1, .inl ⟨m2, U, rfl, h2, n2, _, rfl, q⟩⟩
theorem rd_eqD {α : Type} [DecidableEq α] {f : α → PyData} {K : PySem.W.Frag} {H : Hp} {Q : VK} {a t : Addr} {xs : List V} {l : List α} (hl : H a = some (.lst xs)) (al : All2 (fun v b => Dp K H v (f b)) xs l) (hf : ∀ x y, PyData.eqv (f x) (f y) = decide (x = y)) (sh : SeqAt.shaped (.list (l.map f)) = true) (ht : H t = some (.lst [])) (q : Q (.bl (decide (l = []))) H) : rEqD K (.ref a) (.ref t) H Q :=
  ⟨_, _, .lst (SqL.of hl) (dpa_of (all2_mapR al)), .lst (SqL.of ht) .nil, sh, (sh_lst (n := 0) (f := PyData.int) (l := []) fun _ h => nomatch h).ok (by decide), by rw [show PyData.eqv (.list (l.map f)) (.list []) = decide (l = []) from eqvAll_map hf l []]; exact q⟩
theorem dec_c (rs : List Rm) (gs cs : List Jn) : decide ((⟨rs, gs, cs⟩ : RD) = ⟨rs, gs, []⟩) = decide (cs = []) := by
  by_cases h : cs = []
  · subst h; simp
  · rw [decide_eq_false h, decide_eq_false fun e => h (by injection e)]
theorem dec_gc (rs : List Rm) (gs cs : List Jn) : decide ((⟨rs, gs, cs⟩ : RD) = ⟨rs, [], []⟩) = decide (gs ++ cs = []) := by
  by_cases h : gs ++ cs = []
  · obtain ⟨rfl, rfl⟩ := List.append_eq_nil_iff.mp h
    simp
  · rw [decide_eq_false h, decide_eq_false fun e => h (by injection e with _ e1 e2; rw [e1, e2]; rfl)]
theorem RLaw.c0 {rs : List Rm} {gs cs : List Jn} (h : RLaw rs gs cs) : RLaw rs gs [] := ⟨h.nm, h.nr, h.tl, h.ne, h.lg, Nat.zero_le _, h.gj, fun _ m => nomatch m⟩
theorem RLaw.g0 {rs : List Rm} {gs cs : List Jn} (h : RLaw rs gs cs) : RLaw rs [] [] := ⟨h.nm, h.nr, h.tl, h.ne, Nat.zero_le _, Nat.zero_le _, (fun _ m => nomatch m), fun _ m => nomatch m⟩
def oR : Rm := (Str.ofString "other", [])
theorem oR_ok : IsNm oR.1 ∧ nmB oR.1 = true ∧ oR.1 ∉ nms7 := by
  unfold IsNm
  decide +kernel
theorem stB_gen {rs : List Rm} (nd : (rs.map (·.1)).Nodup) (nb : ∀ r ∈ rs, nmB r.1 = true) {s : Stp} {r : Rm} (hr : r ∈ rs) (e : s.1 = r.1) (i1 : 1 ≤ s.2) (i2 : s.2 ≤ r.2.length) : stB (manyD (.list (rs.map rmD))) (stD s) = true := by
  rw [many_rm]
  show (nmB s.1 && (match (rs.map fun r => (r.1, (r.2.length : Int))).lookup s.1 with
    | some n => decide (1 ≤ s.2) && decide (s.2 ≤ n)
    | none => false)) = true
  rw [lk_len, e, lk_hit nd hr, nb r hr]
  show (true && (decide (1 ≤ s.2) && decide (s.2 ≤ (r.2.length : Int)))) = true
  rw [decide_eq_true i1, decide_eq_true i2]; rfl
theorem jsB_gen {rs rs' : List Rm} (nd : (rs'.map (·.1)).Nodup) (nb : ∀ r ∈ rs', nmB r.1 = true) (sub : ∀ r ∈ rs, r ∈ rs') {gs : List Jn} (g : ∀ j ∈ gs, j.1 ∈ stepsR rs ∧ j.2 ∈ stepsR rs ∧ j.1.1 ≠ j.2.1) : jsB (.list (rs'.map rmD)) (.list (gs.map jnD)) = true := by
  show (true && (gs.map jnD).all (jnB (manyD (.list (rs'.map rmD))))) = true
  rw [List.all_map]
  have st : ∀ s ∈ stepsR rs, stB (manyD (.list (rs'.map rmD))) (stD s) = true := fun s hs => by
    obtain ⟨r, hr, e, i1, i2⟩ := mem_steps hs
    exact stB_gen nd nb (sub r hr) e i1 i2
  have : gs.all (jnB (manyD (.list (rs'.map rmD))) ∘ jnD) = true := List.all_eq_true.mpr fun j hj => by
    show (stB _ (stD j.1) && (stB _ (stD j.2) && decide (j.1.1 ≠ j.2.1))) = true
    rw [st _ (g j hj).1, st _ (g j hj).2.1, decide_eq_true (g j hj).2.2]; rfl
  rw [this]; rfl
theorem err_other {rs : List Rm} {gs cs : List Jn} (h : RLaw rs gs cs) (n : rs.length < 3) : rmErr (.list ((rs ++ [oR]).map rmD)) (.list (gs.map jnD)) (.list (cs.map jnD)) = none := by
  have hh := h.half
  have nd : ((rs ++ [oR]).map (·.1)).Nodup := by
    rw [List.map_append]
    refine List.nodup_append.mpr ⟨hh.nd, List.nodup_cons.mpr ⟨fun h => (nomatch h), List.nodup_nil⟩, fun x hx y hy e => ?_⟩
    obtain ⟨r, hr, rfl⟩ := List.mem_map.mp hx
    have hy := List.mem_singleton.mp hy
    exact oR_ok.2.2 (by rw [← show y = oR.1 from hy, ← e]; exact hh.in7 r hr)
  have nb : ∀ r ∈ rs ++ [oR], nmB r.1 = true := fun r hr => by
    rcases List.mem_append.mp hr with hr | hr
    · exact (nms7_nm _ (hh.in7 r hr)).1
    · rw [List.mem_singleton.mp hr]; exact oR_ok.2.1
  have e : ((rs ++ [oR]).map rmD).map nmOf = (rs ++ [oR]).map (·.1) := by rw [List.map_map]; rfl
  have ar : arD (.list ((rs ++ [oR]).map rmD)) = true := by
    show (true && (decide (1 ≤ ((rs ++ [oR]).map rmD).length ∧ ((rs ++ [oR]).map rmD).length ≤ 3) && (((rs ++ [oR]).map rmD).all rmlD && (decide (((rs ++ [oR]).map rmD).map nmOf).Nodup && ((rs ++ [oR]).map rmD).all fun e => taleD (tlOf e))))) = true
    have hl : 1 ≤ ((rs ++ [oR]).map rmD).length ∧ ((rs ++ [oR]).map rmD).length ≤ 3 := by
      rw [List.length_map, List.length_append]
      show 1 ≤ rs.length + 1 ∧ rs.length + 1 ≤ 3
      omega
    rw [decide_eq_true hl, e, decide_eq_true nd, List.all_map, List.all_map]
    have h1 : (rs ++ [oR]).all (rmlD ∘ rmD) = true := List.all_eq_true.mpr nb
    have h2 : (rs ++ [oR]).all ((fun e => taleD (tlOf e)) ∘ rmD) = true := List.all_eq_true.mpr fun r hr => by
      rcases List.mem_append.mp hr with hr | hr
      · exact taleD_law (hh.tl r hr).2
      · rw [List.mem_singleton.mp hr]; rfl
    rw [h1, h2]; rfl
  have sub : ∀ r ∈ rs, r ∈ rs ++ [oR] := fun r hr => List.mem_append_left _ hr
  unfold rmErr
  rw [ar, jsB_gen nd nb sub h.gj, jsB_gen nd nb sub h.cj]; rfl
theorem sm_other {rs : List Rm} (h : RHalf rs) : SmR (.list ((rs ++ [oR]).map rmD)) := fun e he => by
  have he : e ∈ (rs ++ [oR]).map rmD := he
  rw [List.map_append] at he
  rcases List.mem_append.mp he with he | he
  · exact sm_rms h e he
  · rw [List.mem_singleton.mp he]
    exact smE_rm oR_ok.2.1 (by decide) fun l hl => nomatch hl
theorem nm_other {rs : List Rm} {gs cs : List Jn} (h : RNm ⟨rs, gs, cs⟩) : RNm ⟨rs ++ [oR], gs, cs⟩ := ⟨fun r hr => (List.mem_append.mp hr).elim (h.r r) fun z => by rw [List.mem_singleton.mp z]; exact ⟨oR_ok.1, fun l hl => nomatch hl⟩, h.g, h.c⟩
theorem dec_o (rs : List Rm) (gs cs : List Jn) : decide ((⟨rs, gs, cs⟩ : RD) = ⟨rs ++ [oR], gs, cs⟩) = false := decide_eq_false fun e => by
  injection e with e1 _ _
  have := congrArg List.length e1
  rw [List.length_append] at this
  simp at this
theorem snoc_g {rs : List Rm} {gs : List Jn} {s o : Stp} (g : ∀ j ∈ gs, j.1 ∈ stepsR rs ∧ j.2 ∈ stepsR rs ∧ j.1.1 ≠ j.2.1) (hs : s ∈ stepsR rs) (ho : o ∈ stepsR rs) (ne : s.1 ≠ o.1) : ∀ j ∈ gs ++ [(s, o)], j.1 ∈ stepsR rs ∧ j.2 ∈ stepsR rs ∧ j.1.1 ≠ j.2.1 := fun j hj =>
  (List.mem_append.mp hj).elim (g j) fun z => by rw [List.mem_singleton.mp z]; exact ⟨hs, ho, ne⟩
theorem eqO_str {K : PySem.W.Frag} {C m : Addr} {H : Hp} {Q : VK} {R : RD} {z : Str} (h1 : RoomsAt K C H m R) (n1 : RNm R) (q : Q (.bl false) H) : rEqO C (spEqR K C) (.ref m) (.str z) H Q := by
  obtain ⟨dx, a, b, c, e, _⟩ := id h1
  exact ⟨m, dx, _, rfl, e, .inr ⟨z, rfl⟩, m, .str z, R, rfl, h1, n1, .inr ⟨z, rfl, ⟨_, rfl⟩, q⟩⟩
section
variable {P : Program} {w : World} {K : PySem.W.Frag} {mg : Str → Option Value} {base : Heap}
/-! ### law -/
abbrev s_law : Stmt := top 43
theorem sc_law : FnScope ["script", "deal", "turn", "rooms", "gongs", "calls", "handed", "sounds", "made", "text", "steps", "one", "other"] ["script"] (defScope s_law) := ⟨rfl, rfl, rfl, by decide +kernel, rfl, by decide +kernel, by decide +kernel⟩
def spLaw (K : PySem.W.Frag) (T : List (Addr × Str)) : Sp := fun vs H Q _ => ∃ (a : Addr) (ns : List Int), vs = [.ref a] ∧ SqL K H a (ns.map V.int) ∧ ns.length ≤ 63 ∧ Tabs T H ∧ ∀ H', Q (.bl true) H'
theorem ok_law {f C CR CT CN B g eg ec c : Addr} {T : List (Addr × Str)} {oc : Value} {od an : Option Addr} {osl : Array (Option Value)} {kV doc pm ct : Value}
    (lk : K.lookup f = some ⟨oc, od, .func (PySem.W.fnOf "law" "law" (defArgs s_law) (defBody s_law) (defScope s_law) .none kV doc pm an (.ref c) ct), osl⟩) (cd : PySem.W.codeIn K (.ref c) "law" = true)
    (L : LawC P w K mg base C CR CT CN B g eg ec) (g_Rooms : mg "Rooms" = some (.ref C)) (TE_ : EqC K C) (ME : Ch P w K mg base C "__eq__" ["self", "other"] [] 2 (spEqR K C)) (D_text : Ch P w K mg base C "text" ["self"] [] 1 (spText K C)) (DX_without_joins : ChX P w K mg base C "without_joins" ["self"] [] 7 (spWithout K C CR))
    (C__law_deal : Cl P w K mg base "_law_deal" ["script", "base"] [] 1 (spDeal K)) (C__law_draw : Cl P w K mg base "_law_draw" ["deal", "bound"] [] 1 spDraw) (C__law_pick : Cl P w K mg base "_law_pick" ["deal", "some"] [] 2 (spPick K)) (C__law_rooms : Cl P w K mg base "_law_rooms" ["deal", "most"] [] 4 (spRooms K)) (C__law_text : Cl P w K mg base "_law_text" ["rooms", "gongs", "calls"] [] 1 (spLText K)) (C__law_steps : Cl P w K mg base "_law_steps" ["rooms"] [] 1 (spSteps K))
    (G__law_kept : Cg P w K mg base CX0 "_law_kept" ["made", "rooms"] [] 10 (spKept K C T)) (G__law_refused : Cg P w K mg base CX0 "_law_refused" ["deal", "rooms", "gongs", "calls"] [] 10 (spRefused K T)) (G__law_read : Cg P w K mg base CX0 "_law_read" ["deal", "rooms", "gongs", "calls"] [] 10 (spRefused K T))
    (n_list : mg "list" = none) (n_tuple : mg "tuple" = none) :
    FnG P w K mg base CX0 11 f (PySem.W.fnOf "law" "law" (defArgs s_law) (defBody s_law) (defScope s_law) .none kV doc pm an (.ref c) ct) ["script"] (spLaw K T) := by
  have TC := L.TC
  have M_Rooms := L.mkR
  have SM_read := L.rd
  have DKX_with_gong_one_other := L.wgK
  have DKX_with_call_other_one := L.wcK
  have n_len := L.n_len
  have n_range := L.n_range
  have n_repr := L.n_repr
  refine goC lk cd sc_law (fun vs H Q E h => ?_) (fun A outer s H vs Q E hr fr h => ?_)
  · obtain ⟨_, _, rfl, _⟩ := h
    rfl
  · obtain ⟨a0, ns, rfl, hs, ln, tb, q⟩ := h
    refine ⟨_, (pss_cons (ps_set (i := 1) sc_law.nd rfl (Or.inl rfl) (pe_use C__law_deal (hr.mono (by decide)) rfl (pa_cons (pv 0) (pa_cons pe_int pa_nil))))
    (Evl.pss_cut (ps_for PassesOwn.never rfl (pi_range1 (by rfl) n_range (pa_cons pe_int pa_nil)) (pg_name (i := 2) sc_law.nd rfl (Or.inl rfl))
      (pss_cons (ps_asg (pe_use C__law_rooms (hr.mono (by decide)) rfl (pa_cons (pv 1) (pa_cons pe_int pa_nil))) (pg_tup rfl (pgs_cons (pg_name (i := 3) sc_law.nd rfl (Or.inl rfl)) (pgs_cons (pg_name (i := 4) sc_law.nd rfl (Or.inl rfl)) (pgs_cons (pg_name (i := 5) sc_law.nd rfl (Or.inl rfl)) pgs_nil)))))
    (pss_cons (ps_par (i := 6) (j := 7) (by rfl) sc_law.nd rfl rfl (by decide) rfl rfl (pa_cons (pe_callTy call_list_of (by rfl) n_list (by decide +kernel) (pa_cons (pv 3) pa_nil)) (pa_cons (pe_callTy call_list_of (by rfl) n_list (by decide +kernel) (pa_cons (pv 4) pa_nil)) pa_nil)) (by rfl))
    (Evl.pss_cut (ps_set (i := 8) sc_law.nd rfl (Or.inl rfl) (pe_ifExp (pt_cmpR op_eq (pe_use C__law_draw (hr.mono (by decide)) rfl (pa_cons (pv 1) (pa_cons pe_int pa_nil))) pe_int (nomark _)) (pe_mk3 M_Rooms (hr.mono (by decide)) (passes_call L2.takes0 fun _ _ _ _ h => h) rfl (pa_cons (pv 6) (pa_cons (pv 7) (pa_cons (pe_callTy call_tuple_of (by rfl) n_tuple (by decide +kernel) (pa_cons (pv 5) pa_nil)) pa_nil)))) (pe_mk3 M_Rooms (hr.mono (by decide)) (passes_call L2.takes0 fun _ _ _ _ h => h) rfl (pa_cons (pe_callTy call_tuple_of (by rfl) n_tuple (by decide +kernel) (pa_cons (pv 3) pa_nil)) (pa_cons (pv 4) (pa_cons (pv 5) pa_nil))))))
    (pss_cons (ps_expr (pe_bm PySem.F.plainAttrs_list PySem.F.slot_list_append PySem.F.type_list_append mt_append (pv 6) (pa_cons pe_int pa_nil)))
    (pss_cons (ps_expr (pe_bm PySem.F.plainAttrs_list PySem.F.slot_list_append PySem.F.type_list_append mt_append (pv 7) (pa_cons pe_int pa_nil)))
    (Evl.pss_cut (ps_if (pt_cmpR op_ne (pe_callB (cr_repr fr hr.units) (by rfl) n_repr (by decide +kernel) (pa_cons (pe_tup (pa_cons (pe_fld (pv 8) rfl) (pa_cons (pe_fld (pv 8) rfl) (pa_cons (pe_fld (pv 8) rfl) pa_nil)))) pa_nil)) (pe_callB (cr_repr fr hr.units) (by rfl) n_repr (by decide +kernel) (pa_cons (pe_tup (pa_cons (pe_callTy call_tuple_of (by rfl) n_tuple (by decide +kernel) (pa_cons (pv 3) pa_nil)) (pa_cons (pe_callTy call_tuple_of (by rfl) n_tuple (by decide +kernel) (pa_cons (pv 4) pa_nil)) (pa_cons (pe_callTy call_tuple_of (by rfl) n_tuple (by decide +kernel) (pa_cons (pv 5) pa_nil)) pa_nil)))) pa_nil)) (nomark _)) (pss_one (ps_ret pe_bl)) pss_nil)
    (pss_cons (ps_set (i := 9) sc_law.nd rfl (Or.inl rfl) (pe_use C__law_text (hr.mono (by decide)) rfl (pa_cons (pv 3) (pa_cons (pv 4) (pa_cons (pv 5) pa_nil)))))
    (Evl.pss_cut (ps_if (PW.pt (pw_or (pt_cmpR op_ne (pe_do0 D_text TC.cl (hr.mono (by decide)) (pv 8)) (pv 9) (nomark _)) (pw_or (pt_not (pt_cmpR (op_eqO ME TE_ (hr.mono (by decide))) (pe_readK SM_read (hr.mono (by decide)) (passes_call L2.takes0 fun _ _ _ _ h => h) (pe_glob (v := .ref C) (by rfl) g_Rooms rfl) (pk_cons (pv 9) pk_nil)) (pv 8) (nomark _))) (pw_or (pt_cmpR (op_eqO ME TE_ (hr.mono (by decide))) (pv 8) (pv 9) (nomark _)) (pw_or1 (pt_cmpR (op_neO ME TE_ (hr.mono (by decide))) (pv 8) (pe_mk3 M_Rooms (hr.mono (by decide)) (passes_call L2.takes0 fun _ _ _ _ h => h) rfl (pa_cons (pv 3) (pa_cons (pv 4) (pa_cons (pv 5) pa_nil)))) (nomark _))))))) (pss_one (ps_ret pe_bl)) pss_nil)
    (Evl.pss_cut (ps_if (PW.pt (pw_or (pt_cmpR op_ne (pe_cmpR (op_eqO ME TE_ (hr.mono (by decide))) (pv 8) (pe_mk2 M_Rooms (hr.mono (by decide)) (passes_call L2.takes0 fun _ _ _ _ h => h) rfl (pa_cons (pv 3) (pa_cons (pv 4) pa_nil))) (nomark _)) (pe_cmpR (op_eqD hr.units) (pv 5) (pe_lst pa_nil) (nomark _)) (nomark _)) (pw_or1 (pt_cmpR op_ne (pe_cmpR (op_eqO ME TE_ (hr.mono (by decide))) (pv 8) (pe_do0X DX_without_joins TC.cl (hr.mono (by decide)) (passes_call L2.takes0 fun _ _ _ _ h => h) (pv 8)) (nomark _)) (pe_cmpR (op_eqD hr.units) (pe_op op_cat (pv 4) (pv 5)) (pe_lst pa_nil) (nomark _)) (nomark _))))) (pss_one (ps_ret pe_bl)) pss_nil)
    (Evl.pss_cut (ps_if (PW.pt (pw_or (pt_cmpR (op_neO ME TE_ (hr.mono (by decide))) (pe_do0X DX_without_joins TC.cl (hr.mono (by decide)) (passes_call L2.takes0 fun _ _ _ _ h => h) (pv 8)) (pe_mk1 M_Rooms (hr.mono (by decide)) (passes_call L2.takes0 fun _ _ _ _ h => h) rfl (pa_cons (pv 3) pa_nil)) (nomark _)) (pw_or1 (PW.pt (pw_and (pt_cmpR op_lt (pe_callB call_len_seq (by rfl) n_len PySem.boot_len (pa_cons (pv 3) pa_nil)) pe_int (nomark _)) (pw_and1 (pt_cmpR (op_eqO ME TE_ (hr.mono (by decide))) (pv 8) (pe_mk3 M_Rooms (hr.mono (by decide)) (passes_call L2.takes0 fun _ _ _ _ h => h) rfl (pa_cons (pe_op op_cat (pv 3) (pe_lst (pa_cons (pe_tup (pa_cons pe_str (pa_cons (pe_tup pa_nil) pa_nil))) pa_nil))) (pa_cons (pv 4) (pa_cons (pv 5) pa_nil)))) (nomark _)))))))) (pss_one (ps_ret pe_bl)) pss_nil)
    (pss_cons (ps_set (i := 10) sc_law.nd rfl (Or.inl rfl) (pe_use C__law_steps (hr.mono (by decide)) rfl (pa_cons (pv 3) pa_nil)))
    (pss_cons (ps_par (i := 11) (j := 12) (by rfl) sc_law.nd rfl rfl (by decide) rfl rfl (pa_cons (pe_use C__law_pick (hr.mono (by decide)) rfl (pa_cons (pv 1) (pa_cons (pv 10) pa_nil))) (pa_cons (pe_use C__law_pick (hr.mono (by decide)) rfl (pa_cons (pv 1) (pa_cons (pv 10) pa_nil))) pa_nil)) (by rfl))
    (Evl.pss_cut (ps_if (pt_cmpR op_ne (pe_ix ix_tup (pv 11) pe_int (fun _ _ => rfl)) (pe_ix ix_tup (pv 12) pe_int (fun _ _ => rfl)) (nomark _)) (Evl.pss_cut (ps_if (pt_cmpR (op_neO ME TE_ (hr.mono (by decide))) (pe_doKX DKX_with_gong_one_other TC.cl (hr.mono (by decide)) (passes_call L2.takes0 fun _ _ _ _ h => h) (pv 8) (pk_cons (pv 11) (pk_cons (pv 12) pk_nil))) (pe_mk3 M_Rooms (hr.mono (by decide)) (passes_call L2.takes0 fun _ _ _ _ h => h) rfl (pa_cons (pv 3) (pa_cons (pe_op op_cat (pv 4) (pe_lst (pa_cons (pe_tup (pa_cons (pv 11) (pa_cons (pv 12) pa_nil))) pa_nil))) (pa_cons (pv 5) pa_nil)))) (nomark _)) (pss_one (ps_ret pe_bl)) pss_nil)
    (pss_one (ps_if (pt_cmpR (op_neO ME TE_ (hr.mono (by decide))) (pe_doKX DKX_with_call_other_one TC.cl (hr.mono (by decide)) (passes_call L2.takes0 fun _ _ _ _ h => h) (pv 8) (pk_cons (pv 12) (pk_cons (pv 11) pk_nil))) (pe_mk3 M_Rooms (hr.mono (by decide)) (passes_call L2.takes0 fun _ _ _ _ h => h) rfl (pa_cons (pv 3) (pa_cons (pv 4) (pa_cons (pe_op op_cat (pv 5) (pe_lst (pa_cons (pe_tup (pa_cons (pv 11) (pa_cons (pv 12) pa_nil))) pa_nil))) pa_nil)))) (nomark _)) (pss_one (ps_ret pe_bl)) pss_nil))) pss_nil)
    (pss_one (ps_if (PW.pt (pw_or (pt_not (pt_val (pe_go G__law_kept (hr.mono (by decide)) fr rfl (pa_cons (pv 8) (pa_cons (pv 3) pa_nil))))) (pw_or (pt_not (pt_val (pe_go G__law_refused (hr.mono (by decide)) fr rfl (pa_cons (pv 1) (pa_cons (pv 3) (pa_cons (pv 4) (pa_cons (pv 5) pa_nil))))))) (pw_or1 (pt_not (pt_val (pe_go G__law_read (hr.mono (by decide)) fr rfl (pa_cons (pv 1) (pa_cons (pv 3) (pa_cons (pv 4) (pa_cons (pv 5) pa_nil))))))))))) (pss_one (ps_ret pe_bl)) pss_nil))))))))))))))))
    (pss_one (ps_ret pe_bl)))), ?_⟩
    refine ⟨_, rfl, a0, ns, rfl, hs, ln, fun p l H1 hp hl s1 dl => ?_⟩
    have t1 := tb.ext s1
    refine nx_mk ?_
    refine ⟨fun σ H' => True, ?_, fun σ H' _ => q H'⟩
    refine ⟨2, rfl, by decide, by decide, ?_⟩
    refine for_range (n := 2) (fun i σ H' => (∃ o2 o3 o4 o5 o6 o7 o8 o9 o10 o11 o12, σ = [some (.ref a0), some (.ref p), o2, o3, o4, o5, o6, o7, o8, o9, o10, o11, o12]) ∧ DealAt H' p l ∧ Tabs T H') ⟨⟨none, none, none, none, none, none, none, none, none, none, none, rfl⟩, dl, t1⟩ ?_ fun _ _ _ => trivial
    rintro ti σ H2 hti ⟨⟨o2, o3, o4, o5, o6, o7, o8, o9, o10, o11, o12, rfl⟩, d2, t2⟩
    refine ⟨_, rfl, p, l, rfl, d2, fun u a b c' H3 rs gs cs k3 d3 hu ha hb hc la lb lc rl => ?_⟩
    have t3 := tabs_two t2 d2 k3
    have na := deal_ne d2 ha
    have nb := deal_ne d2 hb
    have nc := deal_ne d2 hc
    have sm := law_sm rl
    have rh := rl.half
    have smr := sm_rms rh
    have smg : SmJs (.list (gs.map jnD)) := sm_jns rh (by have := rl.lg; omega) rl.gj
    have smc : SmJs (.list (cs.map jnD)) := sm_jns rh (by have := rl.lc; omega) rl.cj
    have nR : Nd K p l H3 (.ref a) (.list (rs.map rmD)) := nd_at d3 na noL_rm la
    have nG : Nd K p l H3 (.ref b) (.list (gs.map jnD)) := nd_at d3 nb noL_jn lb
    have nC : Nd K p l H3 (.ref c') (.list (cs.map jnD)) := nd_at d3 nc noL_jn lc
    obtain ⟨xs, ea, al⟩ := la
    obtain ⟨ys, eb, bl⟩ := lb
    obtain ⟨zs, ec, cl⟩ := lc
    refine ⟨u, _, rfl, hu, rfl, _, _, rfl, _, _, rfl, _, _, rfl, rfl, ?_⟩
    refine nx_mk ?_
    refine ⟨_, rfl, a, xs, rfl, .inl (SqL.of ea), fun h1 hh1 => ?_⟩
    have s4 := same_new hh1 (.lst xs)
    have e1 : upd H3 h1 (.lst xs) h1 = some (.lst xs) := upd_same
    have n1 := deal_ne d3 hh1
    have na1 := ne_of_none ea hh1
    have nb1 := ne_of_none eb hh1
    have nc1 := ne_of_none ec hh1
    generalize upd H3 h1 (.lst xs) = H4 at s4 e1 ⊢
    refine ⟨_, rfl, b, ys, rfl, .inl (SqL.of (s4 _ _ eb)), fun h2 hh2 => ⟨_, _, rfl, ?_⟩⟩
    have s5 := same_new hh2 (.lst ys)
    have e2 : upd H4 h2 (.lst ys) h2 = some (.lst ys) := upd_same
    have n2 := deal_ne (d3.same s4) hh2
    have n12 := ne_of_none e1 hh2
    have na2 := ne_of_none (s4 _ _ ea) hh2
    have nb2 := ne_of_none (s4 _ _ eb) hh2
    have nc2 := ne_of_none (s4 _ _ ec) hh2
    generalize upd H4 h2 (.lst ys) = H5 at s5 e2 ⊢
    have s35 := s4.trans s5
    have d5 := d3.same s35
    have t5 := t3.ext s35
    have k35 : KpX p l H3 H5 := KpX.same s35
    have e1 := s5 _ _ e1
    have nh1 : Nd K p l H5 (.ref h1) (.list (rs.map rmD)) := nd_lst n1 e1 (all2_mapR (al.imp fun _ _ g => nd_of d5 (noL_rm _) (dp_same s35 g)))
    have nh2 : Nd K p l H5 (.ref h2) (.list (gs.map jnD)) := nd_lst n2 e2 (all2_mapR (bl.imp fun _ _ g => nd_of d5 (noL_jn _) (dp_same s35 g)))
    refine ⟨fun σ H' => (∃ m, σ = [some (.ref a0), some (.ref p), some (.int (0 + (ti : Nat))), some (.ref a), some (.ref b), some (.ref c'), some (.ref h1), some (.ref h2), some (.ref m), o9, o10, o11, o12] ∧ RoomsAt K C H' m ⟨rs, gs, cs⟩) ∧ KpX p l H5 H' ∧ DealAt H' p l ∧ Tabs T H', ?_, ?_⟩
    · refine ⟨_, rfl, p, l, 2, rfl, ⟨by decide, by decide⟩, d5, fun dr H6 _ _ k6 d6 => ?_⟩
      have t6 := tabs_two t5 d5 k6
      have k56 : KpX p l H5 H6 := KpX.two k6
      have ec6 := k6 _ _ (s35 _ _ ec) nc.1 nc.2
      have ea6 := k6 _ _ (s35 _ _ ea) na.1 na.2
      refine ⟨rfl, _, rfl, iteD (fun _ => ?_) fun _ => ?_⟩
      · refine ⟨_, rfl, _, rfl, _, rfl, c', zs, rfl, .inl ⟨SqL.of ec6, fun v hv => fun m dx1 hx1 hd1 ne1 => ?_⟩⟩
        have s7 := same_new hv (.tup zs)
        have nT : Nd K p l (upd H6 v (.tup zs)) (.ref v) (.tuple (cs.map jnD)) := nd_tup (d6.same s7) upd_same (all2_mapR (cl.imp fun _ _ g => nd_of (d6.same s7) (noL_jn _) (dp_same s7 (dp_kp d3 (k35.trans k56) (noL_jn _) g))))
        generalize upd H6 v (.tup zs) = H7 at s7 nT hx1 hd1 ⊢
        have k57 := k56.trans (KpX.same s7)
        exact rd_mk hx1 hd1 ne1 rfl (nh1.on k57).dp (nh2.on k57).dp nT.dp smr smg smc (fun _ H8 s8 ra => ⟨rfl, ⟨m, rfl, ra⟩, k57.trans (KpX.same s8), (d6.same s7).same s8, (t6.ext s7).ext s8⟩) fun k ek => by
          have er : rmErr (.list (rs.map rmD)) (.list (gs.map jnD)) (.tuple (cs.map jnD)) = none := err_law rl
          rw [er] at ek; cases ek
      · refine ⟨_, rfl, a, xs, rfl, .inl ⟨SqL.of ea6, fun v hv => ⟨_, rfl, _, rfl, fun m dx1 hx1 hd1 ne1 => ?_⟩⟩⟩
        have s7 := same_new hv (.tup xs)
        have nT : Nd K p l (upd H6 v (.tup xs)) (.ref v) (.tuple (rs.map rmD)) := nd_tup (d6.same s7) upd_same (all2_mapR (al.imp fun _ _ g => nd_of (d6.same s7) (noL_rm _) (dp_same s7 (dp_kp d3 (k35.trans k56) (noL_rm _) g))))
        generalize upd H6 v (.tup xs) = H7 at s7 nT hx1 hd1 ⊢
        have k57 := k56.trans (KpX.same s7)
        have k37 := k35.trans k57
        exact rd_mk hx1 hd1 ne1 rfl nT.dp (nG.on k37).dp (nC.on k37).dp smr smg smc (fun _ H8 s8 ra => ⟨rfl, ⟨m, rfl, ra⟩, k57.trans (KpX.same s8), (d6.same s7).same s8, (t6.ext s7).ext s8⟩) fun k ek => by
          have er : rmErr (.tuple (rs.map rmD)) (.list (gs.map jnD)) (.list (cs.map jnD)) = none := err_law rl
          rw [er] at ek; cases ek
    rintro σ H6 ⟨⟨m, rfl, ra6⟩, k56, d6, t6⟩
    have e16 := k56 _ _ e1 n1.1 n1.2 notbl_l
    refine ⟨_, rfl, .inl ⟨rfl, _, SqL.of e16⟩, h1, _, _, rfl, rfl, e16, by rw [al.len, sizeLine_eq]; have := rl.nr.2; omega, ?_⟩
    have e26 := k56 _ _ e2 n2.1 n2.2 notbl_l
    have f7 : Fix H6 (upd H6 h1 (.lst (xs ++ [V.int 5]))) := Fix.lst e16
    have e27 : upd H6 h1 (.lst (xs ++ [V.int 5])) h2 = some (.lst ys) := by rw [upd_ne n12.symm]; exact e26
    refine nx_mk ?_
    refine ⟨_, rfl, .inl ⟨rfl, _, SqL.of e27⟩, h2, _, _, rfl, rfl, e27, by rw [bl.len, sizeLine_eq]; have := rl.lg; omega, ?_⟩
    have f8 : Fix H6 (upd (upd H6 h1 (.lst (xs ++ [V.int 5]))) h2 (.lst (ys ++ [V.int 5]))) := f7.trans (Fix.lst e27)
    have d8 : DealAt (upd (upd H6 h1 (.lst (xs ++ [V.int 5]))) h2 (.lst (ys ++ [V.int 5]))) p l := deal_upd (deal_upd d6 n1.1 n1.2) n2.1 n2.2
    have kk : ∀ b' o, H6 b' = some o → b' ≠ h1 → b' ≠ h2 → upd (upd H6 h1 (.lst (xs ++ [V.int 5]))) h2 (.lst (ys ++ [V.int 5])) b' = some o := fun b' o e m1 m2 => by rw [upd_ne m2, upd_ne m1]; exact e
    generalize upd (upd H6 h1 (.lst (xs ++ [V.int 5]))) h2 (.lst (ys ++ [V.int 5])) = H8 at f8 d8 kk ⊢
    have t8 : Tabs T H8 := fun y my => by
      obtain ⟨ps, g1, g2, g3⟩ := t6 y my
      refine ⟨ps, kk _ _ g1 (fun z => by rw [z, e16] at g1; cases g1) (fun z => by rw [z, e26] at g1; cases g1), g2, fun pos cv e => ?_⟩
      obtain ⟨c2, q1, q2⟩ := g3 pos cv e
      exact ⟨c2, q1, kk _ _ q2 (fun z => by rw [z, e16] at q2; unfold CodeO at q2; cases q2) (fun z => by rw [z, e26] at q2; unfold CodeO at q2; cases q2)⟩
    have k36 := k35.trans k56
    have ra8 := RmAt.fix ra6 f8
    have fxd : ∀ {d : PyData} {v : V}, noL d = true → Dp K H3 v d → Dp K H8 v d := fun n g => dp_fix f8 n (dp_kp d3 k36 n g)
    have ea8 := kk _ _ (k36 _ _ ea na.1 na.2 notbl_l) na1 na2
    have eb8 := kk _ _ (k36 _ _ eb nb.1 nb.2 notbl_l) nb1 nb2
    have ec8 := kk _ _ (k36 _ _ ec nc.1 nc.2 notbl_l) nc1 nc2
    have la8 : ListAt K H8 a rmD rs := ⟨xs, ea8, al.imp fun _ _ g => fxd (noL_rm _) g⟩
    have lb8 : ListAt K H8 b jnD gs := ⟨ys, eb8, bl.imp fun _ _ g => fxd (noL_jn _) g⟩
    have lc8 : ListAt K H8 c' jnD cs := ⟨zs, ec8, cl.imp fun _ _ g => fxd (noL_jn _) g⟩
    clear kk f7 f8 fxd e27 e26 e16 k36 k56 t6 d6 ra6 nh1 nh2 k35 t5 d5 s35 s4 s5 e1 e2 nR nG nC ea eb ec al bl cl ea8 eb8 ec8 n12 na1 na2 nb1 nb2 nc1 nc2 hh1 hh2 n1 n2 d3 t3 hu ha hb hc k3
    have nR : Nd K p l H8 (.ref a) (.list (rs.map rmD)) := nd_at d8 na noL_rm la8
    have nG : Nd K p l H8 (.ref b) (.list (gs.map jnD)) := nd_at d8 nb noL_jn lb8
    have nC : Nd K p l H8 (.ref c') (.list (cs.map jnD)) := nd_at d8 nc noL_jn lc8
    have lk : ∀ {H' : Hp}, KpX p l H8 H' → ListAt K H' a rmD rs ∧ ListAt K H' b jnD gs ∧ ListAt K H' c' jnD cs := fun {H'} k => by
      obtain ⟨xs, ea, al⟩ := la8
      obtain ⟨ys, eb, bl⟩ := lb8
      obtain ⟨zs, ec, cl⟩ := lc8
      exact ⟨⟨xs, k _ _ ea na.1 na.2 notbl_l, al.imp fun _ _ g => dp_kp d8 k (noL_rm _) g⟩, ⟨ys, k _ _ eb nb.1 nb.2 notbl_l, bl.imp fun _ _ g => dp_kp d8 k (noL_jn _) g⟩, ⟨zs, k _ _ ec nc.1 nc.2 notbl_l, cl.imp fun _ _ g => dp_kp d8 k (noL_jn _) g⟩⟩
    have raK : ∀ {H' : Hp}, KpX p l H8 H' → RoomsAt K C H' m ⟨rs, gs, cs⟩ := fun k => RmAt.kp ra8 d8 k
    have el := err_law rl
    have nm := sm.nm
    refine nx_mk ?_
    refine ⟨fun σ H' => σ = [some (.ref a0), some (.ref p), some (.int (0 + (ti : Nat))), some (.ref a), some (.ref b), some (.ref c'), some (.ref h1), some (.ref h2), some (.ref m), o9, o10, o11, o12] ∧ KpX p l H8 H' ∧ DealAt H' p l ∧ Tabs T H', ?_, ?_⟩
    · obtain ⟨dx, fa, fb, fc, hm, g1, g2, g3⟩ := id ra8
      obtain ⟨r1, r2, r3, r4⟩ := rp_all rl
      obtain ⟨⟨xs, ea, al⟩, ⟨ys, eb, bl⟩, ⟨zs, ec, cl⟩⟩ := lk (KpX.refl p l H8)
      refine ⟨_, rfl, m, C, dx, _, _, rfl, hm, TC.cl, TC.nR, rfl, _, rfl, m, C, dx, _, _, rfl, hm, TC.cl, TC.nG, rfl, _, rfl, m, C, dx, _, _, rfl, hm, TC.cl, TC.nC, rfl, by show 3 ≤ sizeLine; decide, fun w1 hw1 => ?_⟩
      have s1 := same_new hw1 (.tup [V.ref fa, .ref fb, .ref fc])
      have e1 : upd H8 w1 (.tup [V.ref fa, .ref fb, .ref fc]) w1 = some (.tup [V.ref fa, .ref fb, .ref fc]) := upd_same
      generalize upd H8 w1 (.tup [V.ref fa, .ref fb, .ref fc]) = H9 at s1 e1 ⊢
      refine ⟨.ref w1, all3 rs gs cs, rfl, .tup (SqT.of e1) (.cons (dp_same s1 g1) (.cons (dp_same s1 g2) (.cons (dp_same s1 g3) .nil))), r1, r2, r3, r4, ?_⟩
      refine ⟨_, rfl, a, xs, rfl, .inl ⟨SqL.of (s1 _ _ ea), fun v1 hv1 => ?_⟩⟩
      have s2 := same_new hv1 (.tup xs)
      have e2 : upd H9 v1 (.tup xs) v1 = some (.tup xs) := upd_same
      generalize upd H9 v1 (.tup xs) = H10 at s2 e2 ⊢
      refine ⟨_, rfl, b, ys, rfl, .inl ⟨SqL.of (s2 _ _ (s1 _ _ eb)), fun v2 hv2 => ?_⟩⟩
      have s3 := same_new hv2 (.tup ys)
      have e3 : upd H10 v2 (.tup ys) v2 = some (.tup ys) := upd_same
      generalize upd H10 v2 (.tup ys) = H11 at s3 e3 ⊢
      refine ⟨_, rfl, c', zs, rfl, .inl ⟨SqL.of (s3 _ _ (s2 _ _ (s1 _ _ ec))), fun v3 hv3 => ?_⟩⟩
      have s4 := same_new hv3 (.tup zs)
      have e4 : upd H11 v3 (.tup zs) v3 = some (.tup zs) := upd_same
      generalize upd H11 v3 (.tup zs) = H12 at s4 e4 ⊢
      refine ⟨by show 3 ≤ sizeLine; decide, fun w2 hw2 => ?_⟩
      have s5 := same_new hw2 (.tup [V.ref v1, .ref v2, .ref v3])
      have e5 : upd H12 w2 (.tup [V.ref v1, .ref v2, .ref v3]) w2 = some (.tup [V.ref v1, .ref v2, .ref v3]) := upd_same
      generalize upd H12 w2 (.tup [V.ref v1, .ref v2, .ref v3]) = H13 at s5 e5 ⊢
      have sA := (((s1.trans s2).trans s3).trans s4).trans s5
      refine ⟨.ref w2, all3 rs gs cs, rfl, .tup (SqT.of e5) (.cons (.tup (SqT.of (s5 _ _ (s4 _ _ (s3 _ _ e2)))) (dpa_of (all2_mapR (al.imp fun _ _ g => dp_same sA g)))) (.cons (.tup (SqT.of (s5 _ _ (s4 _ _ e3))) (dpa_of (all2_mapR (bl.imp fun _ _ g => dp_same sA g)))) (.cons (.tup (SqT.of (s5 _ _ e4)) (dpa_of (all2_mapR (cl.imp fun _ _ g => dp_same sA g)))) .nil))), r1, r2, r3, r4, ?_⟩
      exact rne_same rfl ⟨_, rfl, iteF ⟨rfl, KpX.same sA, d8.same sA, t8.ext sA⟩⟩
    rintro σ H9 ⟨rfl, k9, d9, t9⟩
    obtain ⟨la9, lb9, lc9⟩ := lk k9
    refine ⟨_, rfl, _, rfl, _, rfl, a, b, c', ⟨rs, gs, cs⟩, rfl, la9, lb9, lc9, sm, fun H10 s10 => ?_⟩
    have k10 := k9.trans (KpX.same s10)
    have d10 := d9.same s10
    have t10 := t9.ext s10
    clear k9 d9 t9 la9 lb9 lc9 s10
    refine nx_mk ?_
    refine ⟨fun σ H' => σ = [some (.ref a0), some (.ref p), some (.int (0 + (ti : Nat))), some (.ref a), some (.ref b), some (.ref c'), some (.ref h1), some (.ref h2), some (.ref m), some (.str (textR ⟨rs, gs, cs⟩)), o10, o11, o12] ∧ KpX p l H8 H' ∧ DealAt H' p l ∧ Tabs T H', ?_, ?_⟩
    · have ra := raK k10
      obtain ⟨dx, fa, fb, fc, hm, _⟩ := id ra
      refine ⟨_, rfl, m, dx, _, rfl, hm, rfl, m, ⟨rs, gs, cs⟩, rfl, ra, sm, fun H11 s11 => ⟨_, rfl, rne_same rfl ⟨_, rfl, iteF ?_⟩⟩⟩
      have rc := rows_count rl
      have rlen := row_len rl
      have js := join_small rlen (by omega)
      refine ⟨rfl, _, rfl, rfl, .str (textR ⟨rs, gs, cs⟩), .str (textR ⟨rs, gs, cs⟩), rfl, .str _, fun no => (by cases no), fun t et => ?_⟩
      cases et
      refine ⟨js.2, by rw [text_rows rl]; omega, by rw [text_rows rl]; exact fun y hy => Nat.le_trans (rlen y hy) (by decide), fun k ek => ?_, fun R hR => ?_⟩
      · rw [read_back rl] at ek; cases ek
      rw [read_back rl] at hR
      obtain rfl := Sum.inl.inj hR
      refine ⟨fun _ m2 H12 s12 ra2 => ?_, fun k ek => ?_⟩
      rotate_left
      · rw [show rmErr (.list (rs.map rmD)) (.list (gs.map jnD)) (.list (cs.map jnD)) = none from el] at ek; cases ek
      have k12 := (k10.trans (KpX.same s11)).trans (KpX.same s12)
      have d12 := (d10.same s11).same s12
      have t12 := (t10.ext s11).ext s12
      refine ⟨_, rfl, eqO_at ra2 (raK k12) nm nm ⟨_, rfl, ?_⟩⟩
      rw [decide_eq_true rfl]
      refine iteF ⟨_, rfl, _, rfl, eqO_str (raK k12) nm ⟨_, rfl, iteF ?_⟩⟩
      refine ⟨_, rfl, _, rfl, _, rfl, _, rfl, fun m3 dx3 hx3 hd3 ne3 => rd_mk hx3 hd3 ne3 rfl (nR.on k12).dp (nG.on k12).dp (nC.on k12).dp smr smg smc (fun _ H13 s13 ra3 => ⟨rfl, ?_⟩) fun k ek => by rw [el] at ek; cases ek⟩
      have k13 := k12.trans (KpX.same s13)
      have ra3 : RoomsAt K C H13 m3 ⟨rs, gs, cs⟩ := ra3
      refine neO_at (raK k13) ra3 nm nm ⟨_, rfl, ?_⟩
      rw [decide_eq_true rfl]
      exact iteF ⟨rfl, k13, d12.same s13, t12.ext s13⟩
    clear k10 d10 t10
    rintro σ H9 ⟨rfl, k9, d9, t9⟩
    have shJ : ∀ js : List Jn, (∀ j ∈ js, NmJ j) → SeqAt.shaped (.list (js.map jnD)) = true := fun js h => (sh_lst fun j hj => sh_jn (h j hj)).ok (by decide)
    refine ⟨fun σ H' => σ = [some (.ref a0), some (.ref p), some (.int (0 + (ti : Nat))), some (.ref a), some (.ref b), some (.ref c'), some (.ref h1), some (.ref h2), some (.ref m), some (.str (textR ⟨rs, gs, cs⟩)), o10, o11, o12] ∧ KpX p l H8 H' ∧ DealAt H' p l ∧ Tabs T H', ?_, ?_⟩
    · refine ⟨_, rfl, _, rfl, _, rfl, fun m2 dx2 hx2 hd2 ne2 => rd_mk hx2 hd2 ne2 rfl (nR.on k9).dp (nG.on k9).dp (.tup (L.mkR.eC _) .nil) smr smg smJs_nil (fun _ H10 s10 ra2 => ⟨rfl, ?_⟩) fun k ek => ?_⟩
      rotate_left
      · have er : rmErr (.list (rs.map rmD)) (.list (gs.map jnD)) (.tuple []) = none := err_law rl.c0
        rw [er] at ek; cases ek
      have ra2 : RoomsAt K C H10 m2 ⟨rs, gs, []⟩ := ra2
      have k10 := k9.trans (KpX.same s10)
      refine eqO_at (raK k10) ra2 nm (law_sm rl.c0).nm ⟨_, rfl, by show 0 ≤ sizeLine; decide, fun t ht => ?_⟩
      have s11 := same_new ht (.lst [])
      have e11 : upd H10 t (.lst []) t = some (.lst []) := upd_same
      generalize upd H10 t (.lst []) = H11 at s11 e11 ⊢
      have k11 := k10.trans (KpX.same s11)
      obtain ⟨_, ⟨ys, eb, bl⟩, ⟨zs, ec, cl⟩⟩ := lk k11
      refine rd_eqD ec cl eqv_jn (shJ cs nm.c) e11 ?_
      rw [dec_c]
      refine rne_same rfl ⟨_, rfl, iteF ?_⟩
      have ra11 := raK k11
      obtain ⟨dx, fa, fb, fc, hm, _⟩ := id ra11
      have er0 : rmErr (.tuple (rs.map rmD)) (.tuple []) (.tuple []) = none := err_law rl.g0
      refine ⟨_, rfl, _, rfl, m, dx, _, rfl, hm, rfl, m, rs.map rmD, gs.map jnD, cs.map jnD, rfl, ra11, smr, er0, fun m3 H12 s12 _ ra3 => ?_⟩
      have ra3 : RoomsAt K C H12 m3 ⟨rs, [], []⟩ := ra3
      have k12 := k11.trans (KpX.same s12)
      refine eqO_at (raK k12) ra3 nm (law_sm rl.g0).nm ⟨_, rfl, _, rfl, b, c', ys, zs, rfl, rfl, s12 _ _ eb, s12 _ _ ec, by have := bl.len; have := cl.len; have := rl.lg; have := rl.lc; rw [sizeLine_eq]; omega, fun v hv => ⟨by show 0 ≤ sizeLine; decide, fun t2 ht2 => ?_⟩⟩
      have s13 := same_new hv (.lst (ys ++ zs))
      have e13 : upd H12 v (.lst (ys ++ zs)) v = some (.lst (ys ++ zs)) := upd_same
      generalize upd H12 v (.lst (ys ++ zs)) = H13 at s13 e13 ht2 ⊢
      have s14 := same_new ht2 (.lst [])
      have e14 : upd H13 t2 (.lst []) t2 = some (.lst []) := upd_same
      generalize upd H13 t2 (.lst []) = H14 at s14 e14 ⊢
      have sz := (s12.trans s13).trans s14
      refine rd_eqD (s14 _ _ e13) ((bl.imp fun _ _ g => dp_same sz g).app (cl.imp fun _ _ g => dp_same sz g)) eqv_jn (shJ (gs ++ cs) fun j hj => (List.mem_append.mp hj).elim (nm.g j) (nm.c j)) e14 ?_
      rw [dec_gc]
      have sA := ((s10.trans s11).trans sz)
      exact rne_same rfl ⟨_, rfl, iteF ⟨rfl, k9.trans (KpX.same sA), d9.same sA, t9.ext sA⟩⟩
    clear k9 d9 t9
    rintro σ H9 ⟨rfl, k9, d9, t9⟩
    refine ⟨fun σ H' => σ = [some (.ref a0), some (.ref p), some (.int (0 + (ti : Nat))), some (.ref a), some (.ref b), some (.ref c'), some (.ref h1), some (.ref h2), some (.ref m), some (.str (textR ⟨rs, gs, cs⟩)), o10, o11, o12] ∧ KpX p l H8 H' ∧ DealAt H' p l ∧ Tabs T H', ?_, ?_⟩
    · have ra9 := raK k9
      obtain ⟨dx, fa, fb, fc, hm, _⟩ := id ra9
      have er0 : rmErr (.tuple (rs.map rmD)) (.tuple []) (.tuple []) = none := err_law rl.g0
      have er1 : rmErr (.list (rs.map rmD)) (.tuple []) (.tuple []) = none := err_law rl.g0
      refine ⟨_, rfl, m, dx, _, rfl, hm, rfl, m, rs.map rmD, gs.map jnD, cs.map jnD, rfl, ra9, smr, er0, fun m2 H10 s10 _ ra2 => ⟨_, rfl, fun m3 dx3 hx3 hd3 ne3 => rd_mk hx3 hd3 ne3 rfl (nR.on (k9.trans (KpX.same s10))).dp (.tup (L.mkR.eG _) .nil) (.tup (L.mkR.eC _) .nil) smr smJs_nil smJs_nil (fun _ H11 s11 ra3 => ⟨rfl, ?_⟩) fun k ek => (by rw [er1] at ek; cases ek)⟩⟩
      have ra2 : RoomsAt K C H10 m2 ⟨rs, [], []⟩ := ra2
      have ra3 : RoomsAt K C H11 m3 ⟨rs, [], []⟩ := ra3
      have k11 := (k9.trans (KpX.same s10)).trans (KpX.same s11)
      have d11 := (d9.same s10).same s11
      have t11 := (t9.ext s10).ext s11
      have nm0 := (law_sm rl.g0).nm
      refine neO_at (RmAt.fix ra2 (Fix.of s11)) ra3 nm0 nm0 ⟨_, rfl, ?_⟩
      rw [decide_eq_true rfl]
      obtain ⟨⟨xs, ea, al⟩, _, _⟩ := lk k11
      refine iteF ⟨_, rfl, a, xs, rfl, .inl (SqL.of ea), _, _, rfl, rfl, _, rfl, iteD (fun lt3 => ?_) fun _ => iteF ⟨rfl, k11, d11, t11⟩⟩
      have lt3 : rs.length < 3 := by have := al.len; omega
      refine ⟨_, rfl, _, rfl, by show 0 ≤ sizeLine; decide, fun w1 hw1 => ⟨by show 2 ≤ sizeLine; decide, fun w2 hw2 => ⟨by show 1 ≤ sizeLine; decide, fun w3 hw3 => ?_⟩⟩⟩
      have z1 := same_new hw1 (.tup [])
      have f1 : upd H11 w1 (.tup []) w1 = some (.tup []) := upd_same
      generalize upd H11 w1 (.tup []) = H12 at z1 f1 hw2 hw3 ⊢
      have z2 := same_new hw2 (.tup [V.str oR.1, .ref w1])
      have f2 : upd H12 w2 (.tup [V.str oR.1, .ref w1]) w2 = some (.tup [V.str oR.1, .ref w1]) := upd_same
      have eO : (.str (Str.ofString "other") : V) = .str oR.1 := rfl
      rw [eO] at hw3 ⊢
      generalize upd H12 w2 (.tup [V.str oR.1, .ref w1]) = H13 at z2 f2 hw3 ⊢
      have z3 := same_new hw3 (.lst [V.ref w2])
      have f3 : upd H13 w3 (.lst [V.ref w2]) w3 = some (.lst [V.ref w2]) := upd_same
      generalize upd H13 w3 (.lst [V.ref w2]) = H14 at z3 f3 ⊢
      have zz := (z1.trans z2).trans z3
      refine ⟨a, w3, xs, _, rfl, rfl, zz _ _ ea, f3, by have := al.len; rw [sizeLine_eq]; show xs.length + 1 ≤ _; omega, fun v hv => ⟨_, rfl, _, rfl, fun m4 dx4 hx4 hd4 ne4 => ?_⟩⟩
      have z4 := same_new hv (.lst (xs ++ [V.ref w2]))
      have f4 : upd H14 v (.lst (xs ++ [V.ref w2])) v = some (.lst (xs ++ [V.ref w2])) := upd_same
      generalize upd H14 v (.lst (xs ++ [V.ref w2])) = H15 at z4 f4 hx4 hd4 ⊢
      have zA := zz.trans z4
      have k15 := k11.trans (KpX.same zA)
      have dL : Dp K H15 (.ref v) (.list ((rs ++ [oR]).map rmD)) := .lst (SqL.of f4) (dpa_of (all2_mapR ((al.imp fun _ _ g => dp_same zA g).app (.cons (.tup (SqT.of ((z3.trans z4) _ _ f2)) (.cons (.str _) (.cons (.tup (SqT.of (((z2.trans z3).trans z4) _ _ f1)) .nil) .nil))) .nil))))
      refine rd_mk hx4 hd4 ne4 rfl dL (nG.on k15).dp (nC.on k15).dp (sm_other rh) smg smc (fun _ H16 s16 ra4 => ⟨rfl, ?_⟩) fun k ek => (by rw [err_other rl lt3] at ek; cases ek)
      have ra4 : RoomsAt K C H16 m4 ⟨rs ++ [oR], gs, cs⟩ := ra4
      have k16 := k15.trans (KpX.same s16)
      refine eqO_at (raK k16) ra4 nm (nm_other nm) ⟨_, rfl, ?_⟩
      rw [dec_o]
      exact iteF ⟨rfl, k16, (d11.same zA).same s16, (t11.ext zA).ext s16⟩
    clear k9 d9 t9
    rintro σ H9 ⟨rfl, k9, d9, t9⟩
    obtain ⟨la9, _, _⟩ := lk k9
    refine ⟨_, rfl, a, rs, rfl, la9, by have := rl.nr.2; omega, fun z hz => by have := (rh.tl z hz).1; omega, fun sp H10 s10 hsp lsp => ?_⟩
    obtain ⟨ss, es, als⟩ := lsp
    have k10 := k9.trans (KpX.same s10)
    have d10 := d9.same s10
    have t10 := t9.ext s10
    have nsp := deal_ne d9 hsp
    have sl := stepsR_len rs (fun z hz => by have := (rh.tl z hz).1; omega) rs.length
    rw [List.take_length] at sl
    have r3 := rl.nr.2
    have sne : 1 ≤ (stepsR rs).length := by
      cases h : stepsR rs with
      | nil => exact absurd h rl.ne
      | cons _ _ => simp
    have lss := als.len
    refine nx_mk ?_
    refine ⟨_, rfl, _, rfl, p, l, sp, ss, rfl, d10, fun H' k => SqX.lst (k _ _ es nsp.1 nsp.2), ⟨by omega, by omega⟩, fun v1 H11 hv1 k11 d11 => ⟨_, rfl, _, rfl, p, l, sp, ss, rfl, d11, fun H' k => SqX.lst (k _ _ (k11 _ _ es nsp.1 nsp.2) nsp.1 nsp.2), ⟨by omega, by omega⟩, fun v2 H12 hv2 k12 d12 => ⟨_, _, rfl, ?_⟩⟩⟩
    obtain ⟨q1, hq1, dq1⟩ := all2_memL als hv1
    obtain ⟨q2, hq2, dq2⟩ := all2_memL als hv2
    have k02 : KpX p l H10 H12 := (KpX.two k11).trans (KpX.two k12)
    have n1 : Nd K p l H12 v1 (stD q1) := nd_of d12 (noL_st _) (dp_kp d10 k02 (noL_st _) dq1)
    have n2 : Nd K p l H12 v2 (stD q2) := nd_of d12 (noL_st _) (dp_kp d10 k02 (noL_st _) dq2)
    have kM := k10.trans k02
    have t12 := tabs_two (tabs_two t10 d10 k11) d11 k12
    clear k9 d9 t9 la9 s10 k10 d10 t10 es als k11 d11 k12 hv1 hv2 dq1 dq2 lss sne sl
    refine nx_mk ?_
    refine ⟨fun σ H' => σ = [some (.ref a0), some (.ref p), some (.int (0 + (ti : Nat))), some (.ref a), some (.ref b), some (.ref c'), some (.ref h1), some (.ref h2), some (.ref m), some (.str (textR ⟨rs, gs, cs⟩)), some (.ref sp), some v1, some v2] ∧ KpX p l H8 H' ∧ DealAt H' p l ∧ Tabs T H', ?_, ?_⟩
    · obtain ⟨b1, rfl, hb1⟩ := dp_st n1.dp
      obtain ⟨b2, rfl, hb2⟩ := dp_st n2.dp
      refine ⟨_, rfl, b1, _, 0, _, rfl, rfl, hb1, at0, _, rfl, b2, _, 0, _, rfl, rfl, hb2, at0, rfl, _, rfl, ?_⟩
      rw [neStr]
      refine iteD (fun ne => ?_) fun _ => ⟨rfl, kM, d12, t12⟩
      have sq1 : SmS (stD q1) := sm2s (by show q1.1.length ≤ 1000; have := (step3 rh hq1).1.2.1; omega) trivial
      have sq2 : SmS (stD q2) := sm2s (by show q2.1.length ≤ 1000; have := (step3 rh hq2).1.2.1; omega) trivial
      have j1 : SmJ (.tuple [stD q1, stD q2]) := fun x hx => by
        simp only [List.mem_cons, List.mem_nil_iff, or_false] at hx
        rcases hx with rfl | rfl
        · exact sq1
        · exact sq2
      have smg2 : SmJs (.tuple (gs.map jnD ++ [.tuple [stD q1, stD q2]])) := sm_snoc smg (by rw [List.length_map]; have := rl.lg; omega) j1
      have smc2 : SmJs (.tuple (cs.map jnD ++ [.tuple [stD q1, stD q2]])) := sm_snoc smc (by rw [List.length_map]; have := rl.lc; omega) j1
      have mg2 : (gs ++ [(q1, q2)]).map jnD = gs.map jnD ++ [.tuple [stD q1, stD q2]] := by rw [List.map_append]; rfl
      have mc2 : (cs ++ [(q1, q2)]).map jnD = cs.map jnD ++ [.tuple [stD q1, stD q2]] := by rw [List.map_append]; rfl
      have jg2 := jsB_law rh (snoc_g rl.gj hq1 hq2 ne)
      have jc2 := jsB_law rh (snoc_g rl.cj hq1 hq2 ne)
      rw [mg2] at jg2
      rw [mc2] at jc2
      have jG := jsB_law rh rl.gj
      have jC := jsB_law rh rl.cj
      have eg1 : rmErr (.list (rs.map rmD)) (.list (gs.map jnD ++ [.tuple [stD q1, stD q2]])) (.list (cs.map jnD)) = none := by
        unfold rmErr; rw [rh.ar, jg2, jC]; rfl
      have ec1 : rmErr (.list (rs.map rmD)) (.list (gs.map jnD)) (.list (cs.map jnD ++ [.tuple [stD q1, stD q2]])) = none := by
        unfold rmErr; rw [rh.ar, jG, jc2]; rfl
      have eg2 : rmErr (.tuple (rs.map rmD)) (.tuple (gs.map jnD ++ [.tuple [stD q1, stD q2]])) (.tuple (cs.map jnD)) = none := eg1
      have ec2 : rmErr (.tuple (rs.map rmD)) (.tuple (gs.map jnD)) (.tuple (cs.map jnD ++ [.tuple [stD q1, stD q2]])) = none := ec1
      have nj : NmJ (q1, q2) := ⟨(step3 rh hq1).1, (step3 rh hq2).1⟩
      have nmG : RNm ⟨rs, gs ++ [(q1, q2)], cs⟩ := ⟨nm.r, fun j hj => (List.mem_append.mp hj).elim (nm.g j) fun z => by rw [List.mem_singleton.mp z]; exact nj, nm.c⟩
      have nmC : RNm ⟨rs, gs, cs ++ [(q1, q2)]⟩ := ⟨nm.r, nm.g, fun j hj => (List.mem_append.mp hj).elim (nm.c j) fun z => by rw [List.mem_singleton.mp z]; exact nj⟩
      refine ⟨fun σ H' => σ = [some (.ref a0), some (.ref p), some (.int (0 + (ti : Nat))), some (.ref a), some (.ref b), some (.ref c'), some (.ref h1), some (.ref h2), some (.ref m), some (.str (textR ⟨rs, gs, cs⟩)), some (.ref sp), some (.ref b1), some (.ref b2)] ∧ KpX p l H12 H' ∧ DealAt H' p l ∧ Tabs T H', ?_, ?_⟩
      · have ra9 := raK kM
        obtain ⟨dx, fa, fb, fc, hm, _⟩ := id ra9
        refine ⟨_, rfl, m, dx, _, rfl, hm, rfl, _, rfl, _, rfl, rfl, m, .ref b1, .ref b2, stD q1, stD q2, rs.map rmD, gs.map jnD, cs.map jnD, rfl, ra9, n1.dp, n2.dp, smr, smg2, smc, fun _ m2 H13 s13 _ ra2 => ?_, fun k ek => (by rw [eg2] at ek; cases ek)⟩
        have ra2 : RoomsAt K C H13 m2 ⟨rs, gs ++ [(q1, q2)], cs⟩ := by
          show RmAt K C H13 m2 (rs.map rmD) ((gs ++ [(q1, q2)]).map jnD) (cs.map jnD)
          rw [mg2]; exact ra2
        obtain ⟨_, ⟨ys, eb, bl⟩, _⟩ := lk (kM.trans (KpX.same s13))
        refine ⟨_, rfl, _, rfl, _, rfl, _, rfl, by show 2 ≤ sizeLine; decide, fun w1 hw1 => ⟨by show 1 ≤ sizeLine; decide, fun w2 hw2 => ?_⟩⟩
        have z1 := same_new hw1 (.tup [V.ref b1, .ref b2])
        have f1 : upd H13 w1 (.tup [V.ref b1, .ref b2]) w1 = some (.tup [V.ref b1, .ref b2]) := upd_same
        generalize upd H13 w1 (.tup [V.ref b1, .ref b2]) = H14 at z1 f1 hw2 ⊢
        have z2 := same_new hw2 (.lst [V.ref w1])
        have f2 : upd H14 w2 (.lst [V.ref w1]) w2 = some (.lst [V.ref w1]) := upd_same
        generalize upd H14 w2 (.lst [V.ref w1]) = H15 at z2 f2 ⊢
        refine ⟨b, w2, ys, _, rfl, rfl, (z1.trans z2) _ _ eb, f2, by have := bl.len; have := rl.lg; rw [sizeLine_eq]; show ys.length + 1 ≤ _; omega, fun v hv => ⟨_, rfl, fun m3 dx3 hx3 hd3 ne3 => ?_⟩⟩
        have z3 := same_new hv (.lst (ys ++ [V.ref w1]))
        have f3 : upd H15 v (.lst (ys ++ [V.ref w1])) v = some (.lst (ys ++ [V.ref w1])) := upd_same
        generalize upd H15 v (.lst (ys ++ [V.ref w1])) = H16 at z3 f3 hx3 hd3 ⊢
        have zz := (z1.trans z2).trans z3
        have sA := s13.trans zz
        have k16 : KpX p l H12 H16 := KpX.same sA
        have kM16 := kM.trans k16
        have dW : Dp K H16 (.ref w1) (.tuple [stD q1, stD q2]) := .tup (SqT.of ((z2.trans z3) _ _ f1)) (.cons (n1.on k16).dp (.cons (n2.on k16).dp .nil))
        have dL : Dp K H16 (.ref v) (.list (gs.map jnD ++ [.tuple [stD q1, stD q2]])) := .lst (SqL.of f3) (dpa_of ((all2_mapR (bl.imp fun _ _ g => dp_same zz g)).app (.cons dW .nil)))
        refine rd_mk hx3 hd3 ne3 rfl (nR.on kM16).dp dL (nC.on kM16).dp smr smg2 smc (fun _ H17 s17 ra3 => ⟨rfl, ?_⟩) fun k ek => (by rw [eg1] at ek; cases ek)
        have ra3 : RoomsAt K C H17 m3 ⟨rs, gs ++ [(q1, q2)], cs⟩ := by
          show RmAt K C H17 m3 (rs.map rmD) ((gs ++ [(q1, q2)]).map jnD) (cs.map jnD)
          rw [mg2]; exact ra3
        refine neO_at (RmAt.fix ra2 (Fix.of (zz.trans s17))) ra3 nmG nmG ⟨_, rfl, ?_⟩
        rw [decide_eq_true rfl]
        exact iteF ⟨rfl, k16.trans (KpX.same s17), (d12.same sA).same s17, (t12.ext sA).ext s17⟩
      rintro σ H13 ⟨rfl, k13, d13, t13⟩
      have kN := kM.trans k13
      have n1 := n1.on k13
      have n2 := n2.on k13
      have ra9 := raK kN
      obtain ⟨dx, fa, fb, fc, hm, _⟩ := id ra9
      refine ⟨_, rfl, m, dx, _, rfl, hm, rfl, _, rfl, _, rfl, rfl, m, .ref b1, .ref b2, stD q1, stD q2, rs.map rmD, gs.map jnD, cs.map jnD, rfl, ra9, n1.dp, n2.dp, smr, smg, smc2, fun _ m2 H14 s14 _ ra2 => ?_, fun k ek => (by rw [ec2] at ek; cases ek)⟩
      have ra2 : RoomsAt K C H14 m2 ⟨rs, gs, cs ++ [(q1, q2)]⟩ := by
        show RmAt K C H14 m2 (rs.map rmD) (gs.map jnD) ((cs ++ [(q1, q2)]).map jnD)
        rw [mc2]; exact ra2
      obtain ⟨_, _, ⟨zs, ec, cl⟩⟩ := lk (kN.trans (KpX.same s14))
      refine ⟨_, rfl, _, rfl, _, rfl, _, rfl, _, rfl, by show 2 ≤ sizeLine; decide, fun w1 hw1 => ⟨by show 1 ≤ sizeLine; decide, fun w2 hw2 => ?_⟩⟩
      have z1 := same_new hw1 (.tup [V.ref b1, .ref b2])
      have f1 : upd H14 w1 (.tup [V.ref b1, .ref b2]) w1 = some (.tup [V.ref b1, .ref b2]) := upd_same
      generalize upd H14 w1 (.tup [V.ref b1, .ref b2]) = H15 at z1 f1 hw2 ⊢
      have z2 := same_new hw2 (.lst [V.ref w1])
      have f2 : upd H15 w2 (.lst [V.ref w1]) w2 = some (.lst [V.ref w1]) := upd_same
      generalize upd H15 w2 (.lst [V.ref w1]) = H16 at z2 f2 ⊢
      refine ⟨c', w2, zs, _, rfl, rfl, (z1.trans z2) _ _ ec, f2, by have := cl.len; have := rl.lc; rw [sizeLine_eq]; show zs.length + 1 ≤ _; omega, fun v hv => fun m3 dx3 hx3 hd3 ne3 => ?_⟩
      have z3 := same_new hv (.lst (zs ++ [V.ref w1]))
      have f3 : upd H16 v (.lst (zs ++ [V.ref w1])) v = some (.lst (zs ++ [V.ref w1])) := upd_same
      generalize upd H16 v (.lst (zs ++ [V.ref w1])) = H17 at z3 f3 hx3 hd3 ⊢
      have zz := (z1.trans z2).trans z3
      have sA := s14.trans zz
      have k17 : KpX p l H13 H17 := KpX.same sA
      have kN17 := kN.trans k17
      have dW : Dp K H17 (.ref w1) (.tuple [stD q1, stD q2]) := .tup (SqT.of ((z2.trans z3) _ _ f1)) (.cons (n1.on k17).dp (.cons (n2.on k17).dp .nil))
      have dL : Dp K H17 (.ref v) (.list (cs.map jnD ++ [.tuple [stD q1, stD q2]])) := .lst (SqL.of f3) (dpa_of ((all2_mapR (cl.imp fun _ _ g => dp_same zz g)).app (.cons dW .nil)))
      refine rd_mk hx3 hd3 ne3 rfl (nR.on kN17).dp (nG.on kN17).dp dL smr smg smc2 (fun _ H18 s18 ra3 => ⟨rfl, ?_⟩) fun k ek => (by rw [ec1] at ek; cases ek)
      have ra3 : RoomsAt K C H18 m3 ⟨rs, gs, cs ++ [(q1, q2)]⟩ := by
        show RmAt K C H18 m3 (rs.map rmD) (gs.map jnD) ((cs ++ [(q1, q2)]).map jnD)
        rw [mc2]; exact ra3
      refine neO_at (RmAt.fix ra2 (Fix.of (zz.trans s18))) ra3 nmC nmC ⟨_, rfl, ?_⟩
      rw [decide_eq_true rfl]
      exact iteF ⟨rfl, kN17.trans (KpX.same s18), (d13.same sA).same s18, (t13.ext sA).ext s18⟩
    clear kM d12 t12 n1 n2
    rintro σ H13 ⟨rfl, k13, d13, t13⟩
    obtain ⟨la13, lb13, lc13⟩ := lk k13
    refine ⟨_, rfl, _, rfl, m, a, ⟨rs, gs, cs⟩, rfl, raK k13, la13, rl, t13, fun H14 x14 t14 => ⟨_, rfl, iteF ?_⟩⟩
    have k14 := k13.trans (KpX.ext x14)
    have d14 := d13.ext x14
    obtain ⟨la14, lb14, lc14⟩ := lk k14
    refine ⟨_, rfl, _, rfl, _, rfl, _, rfl, p, l, a, b, c', rs, gs, cs, rfl, d14, na, nb, nc, la14, lb14, lc14, rl, t14, fun H15 k15 d15 t15 => ⟨_, rfl, iteF ?_⟩⟩
    have k15 := k14.trans k15
    obtain ⟨la15, lb15, lc15⟩ := lk k15
    refine ⟨_, rfl, _, rfl, _, rfl, _, rfl, p, l, a, b, c', rs, gs, cs, rfl, d15, na, nb, nc, la15, lb15, lc15, rl, t15, fun H16 k16 d16 t16 => ⟨_, rfl, iteF ?_⟩⟩
    exact ⟨⟨_, _, _, _, _, _, _, _, _, _, _, rfl⟩, d16, t16⟩
end
end R0

/-! the law's own call in the layer FnG, the tables of some defs known to be empty -/
namespace Gt
open PySem PySem.Spec PyProof.Rows L2 LamX Gu
section
variable {P : Program} {w : World} {K : PySem.W.Frag} {mg : Str → Option Value} {CX : CXT}
theorem from_tabs {mb : Str → Option Value} {k : Nat} {fa a : Addr} {cs : List (Addr × Addr)} {fd : FuncData} {x : Str} {sp : Sp} {s : Shared} {vs : List Value} {H : Hp}
    (inK : K.In s.heap) (globs : s.heap.Ns mainGlobals mg) (blt : s.heap.Ns builtinsNs mb) (same : ∀ x : Str, x ≠ "__name__" → mb x = bootBuiltins x) (lim : s.heap.NoLimit) (bare : s.gens = #[])
    (tabs : ∀ p ∈ cs, s.heap.get? p.2 = some { cls := .none, data := .fields #[] }) (out : ∀ p ∈ cs, K.lookup p.2 = none) (hd : ∀ p ∈ cs, PySem.W.codeHdIn K p.1 p.2 = true)
    (main : ∃ (bm : Addr) (ob : Obj), mg "__builtins__" = some (.ref bm) ∧ bm ≠ builtinsNs ∧ s.heap.get? bm = some ob ∧ ob.cls = .type "module" ∧ ob.dict = some builtinsNs ∧ ob.data = .plain)
    (obj : s.heap.get? a = some { cls := .type "list", data := .seq vs.toArray }) (room : Room k callerA)
    (F : ∀ base : Heap, K.In base → base.Ns mainGlobals mg → (∀ p ∈ cs, TabB base mg p.1 p.2) → FnG P w K mg base CX k fa fd [x] sp) (bind : ∀ (s : Shared) (u : Value), BindsTo s fd ⟨[u], []⟩ [(x, u)])
    (isT : ∀ p ∈ cs, H p.2 = some (.tbl #[])) (else_ : ∀ b u, H b = some u → (b = a ∧ (∃ o xs, u = .frz o (.lst xs)) ∧ K.lookup a = none) ∨ ∃ p ∈ cs, b = p.2) (ok : HOk P w H s.heap) (hsp : sp [.ref a] H (fun v _ => v = .bl true) fun _ _ _ => False)
    (hCX : ∀ e s', CX [] H s (fun _ _ _ => False) e s' → False) :
    codeAny (model P w) callerA (.call (.ref fa) ⟨[.ref a], []⟩) (fun r s' => r = .ok (.ret (.bool true)) ∧ OldK s.heap s'.heap ∧ s'.os = s.os ∧ AllBare s'.gens) s := by
  -- what is neither the script nor a table is free
  have low : ∀ {b o}, s.heap.get? b = some o → (∀ vs n, o.data ≠ .seq vs n) → o.data ≠ .fields #[] → (hidT s.heap H).get? b = some o := fun {b o} e n1 n2 => hidT_get e (by
    rcases q : H b with _ | u
    · rfl
    · rcases else_ b u q with ⟨rfl, _⟩ | ⟨p, m, rfl⟩
      · rw [obj] at e; cases e; exact absurd rfl (n1 _ _)
      · rw [tabs p m] at e; cases e; exact absurd rfl n2)
  have dicts : ∀ {b : Addr} {m : Str → Option Value}, s.heap.Ns b m → (hidT s.heap H).Ns b m := fun {b m} ⟨o, es, ep, e, d, r⟩ =>
    ⟨o, es, ep, low e (fun vs n z => by rw [d] at z; cases z) (fun z => by rw [d] at z; cases z), d, r⟩
  have kin : K.In (hidT s.heap H) := fun b o e => hidT_get (inK b o e) (by
    rcases q : H b with _ | u
    · rfl
    · rcases else_ b u q with ⟨rfl, _, z⟩ | ⟨p, m, rfl⟩
      · rw [z] at e; cases e
      · rw [out p m] at e; cases e)
  have modl : Mod K mg (hidT s.heap H) := ⟨kin, dicts globs, ⟨mb, dicts blt, same⟩, let ⟨mc, h1, h2⟩ := lim; ⟨mc, dicts h1, h2⟩⟩
  have tb : ∀ p ∈ cs, TabB (hidT s.heap H) mg p.1 p.2 := fun p m => by
    have nM : mainGlobals ≠ p.2 := fun z => by
      obtain ⟨o, es, ep, e, d, _⟩ := globs
      rw [z, tabs p m] at e
      cases e
      cases d
    refine NdefX.tabB_of_K kin (hd p m) ?_ nM
    obtain ⟨bm, ob, b1, b2, b3, b4, b5, b6⟩ := main
    refine ⟨bm, ob, b1, b2, fun q => ?_, fun q => ?_, low b3 (fun vs n z => by rw [b6] at z; cases z) (fun z => by rw [b6] at z; cases z), b4, b5, b6⟩
    · obtain ⟨o, es, ep, e, d, _⟩ := globs
      rw [← q, b3] at e
      cases e
      rw [d] at b6
      cases b6
    · rw [q, tabs p m] at b3
      cases b3
      cases b6
  have env : Env0 P w K mg (hidT s.heap H) callerA [] s H := ⟨rfl, modl, fun b o e => of_hidT e, Nat.le_of_eq (hidT_size _ _), trivial, fun b hb => (nomatch hb), ok, .of_eq bare⟩
  refine codeAny_mono ((F _ kin (dicts globs) tb).go callerA [] s H ⟨[.ref a], []⟩ [.ref a] [.ref a] _ _ room rfl env (bind s (.ref a)) (.cons rfl .nil) hsp) fun r s' fin => ?_
  rcases r with e | fl
  · exact (hCX e s' fin).elim
  · rcases fl with _ | _ | _ | u <;> try exact False.elim fin
    obtain ⟨v, H', os, b', un, ok', rv, hv⟩ := fin
    obtain rfl : v = .bl true := hv
    obtain rfl : u = Value.bool true := rv
    have grown : ∀ p ∈ cs, ∃ more : Array Value, s'.heap.get? p.2 = some { cls := .none, data := .fields more } := fun p m => by
      obtain ⟨more, z⟩ := un.tbls p.2 #[] (isT p m)
      exact ⟨_, ok' p.2 _ z⟩
    have stays : ∀ b o, (¬ ∃ p ∈ cs, b = p.2) → s.heap.get? b = some o → s'.heap.get? b = some o := fun b o n e => by
      rcases q : H b with _ | z
      · exact un.keep b o e q (fun m => nomatch m) (by simp)
      · rcases else_ b z q with ⟨_, ⟨o1, xs, rfl⟩, _⟩ | t
        · have z2 := un.frzs b o1 _ q
          have old := (ok b _ q).1
          rw [e] at old
          cases old
          exact (ok' b _ z2).1
        · exact absurd t n
    refine ⟨rfl, ⟨fun b o e => ?_, fun b o e => ?_⟩, os, b'⟩
    · rcases Classical.em (∃ p ∈ cs, b = p.2) with ⟨p, m, rfl⟩ | n
      · obtain ⟨more, hm⟩ := grown p m
        rw [tabs p m] at e
        cases e
        exact .inr (.inl ⟨((PySem.W.codeHd_of_K inK (hd p m)).tab (tabs p m)).isCodeTable, rfl, #[], more, rfl, by rw [Array.empty_append]; exact hm⟩)
      · exact .inl (stays b o n e)
    · rcases Classical.em (∃ p ∈ cs, b = p.2) with ⟨p, m, rfl⟩ | n
      · obtain ⟨more, hm⟩ := grown p m
        exact ⟨_, hm⟩
      · exact ⟨o, stays b o n e⟩
theorem law_tabs {mb : Str → Option Value} {k : Nat} {fa a : Addr} {cs : List (Addr × Addr)} {fd : FuncData} {x : Str} {sp : Sp} {s : Shared} {vs : List Value} {ns : List Int}
    (inK : K.In s.heap) (globs : s.heap.Ns mainGlobals mg) (blt : s.heap.Ns builtinsNs mb) (same : ∀ x : Str, x ≠ "__name__" → mb x = bootBuiltins x) (lim : s.heap.NoLimit) (bare : s.gens = #[])
    (tabs : ∀ p ∈ cs, s.heap.get? p.2 = some { cls := .none, data := .fields #[] }) (out : ∀ p ∈ cs, K.lookup p.2 = none) (hd : ∀ p ∈ cs, PySem.W.codeHdIn K p.1 p.2 = true)
    (main : ∃ (bm : Addr) (ob : Obj), mg "__builtins__" = some (.ref bm) ∧ bm ≠ builtinsNs ∧ s.heap.get? bm = some ob ∧ ob.cls = .type "module" ∧ ob.dict = some builtinsNs ∧ ob.data = .plain)
    (obj : s.heap.get? a = some { cls := .type "list", data := .seq vs.toArray }) (ivs : IntsAre vs ns) (size : ns.length ≤ sizeLine) (room : Room k callerA)
    (F : ∀ base : Heap, K.In base → base.Ns mainGlobals mg → (∀ p ∈ cs, TabB base mg p.1 p.2) → FnG P w K mg base CX k fa fd [x] sp) (bind : ∀ (s : Shared) (u : Value), BindsTo s fd ⟨[u], []⟩ [(x, u)])
    (hsp : ∀ H : Hp, (∀ p ∈ cs, H p.2 = some (.tbl #[])) → SqL K H a (ns.map V.int) → sp [.ref a] H (fun v _ => v = .bl true) fun _ _ _ => False) (hCX : ∀ H e s', CX [] H s (fun _ _ _ => False) e s' → False) :
    codeAny (model P w) callerA (.call (.ref fa) ⟨[.ref a], []⟩) (fun r s' => r = .ok (.ret (.bool true)) ∧ OldK s.heap s'.heap ∧ s'.os = s.os ∧ AllBare s'.gens) s := by
  have rv := vals_ints ivs
  have cnt := ivs.length
  have ne : ∀ p ∈ cs, p.2 ≠ a := fun p m z => by
    have e := tabs p m
    rw [z, obj] at e
    have e' : Data.seq vs.toArray _ = Data.fields #[] := congrArg Obj.data (Option.some.inj e)
    cases e'
  let T : Hp := fun b => if b ∈ cs.map (·.2) then some (.tbl #[]) else none
  have tAt : ∀ p ∈ cs, T p.2 = some (.tbl #[]) := fun p m => if_pos (List.mem_map.mpr ⟨p, m, rfl⟩)
  have tEl : ∀ b u, T b = some u → u = .tbl #[] ∧ ∃ p ∈ cs, b = p.2 := fun b u e => by
    by_cases h : b ∈ cs.map (·.2)
    · have e : (if b ∈ cs.map (·.2) then some (HO.tbl #[]) else none) = some u := e
      rw [if_pos h] at e
      obtain ⟨p, m, z⟩ := List.mem_map.mp h
      exact ⟨(Option.some.inj e).symm, p, m, z.symm⟩
    · have e : (if b ∈ cs.map (·.2) then some (HO.tbl #[]) else none) = some u := e
      rw [if_neg h] at e
      cases e
  have tOk : HOk P w T s.heap := fun b u e => by
    obtain ⟨rfl, p, m, rfl⟩ := tEl b u e
    exact tabs p m
  rcases own : K.lookup a with _ | o
  · let H : Hp := fun b => if b = a then some (.frz { cls := .type "list", data := .seq vs.toArray } (.lst (ns.map V.int))) else T b
    have hN : ∀ b, b ≠ a → H b = T b := fun b n => if_neg n
    have hA : H a = some (.frz { cls := .type "list", data := .seq vs.toArray } (.lst (ns.map V.int))) := if_pos rfl
    have hT : ∀ p ∈ cs, H p.2 = some (.tbl #[]) := fun p m => (hN _ (ne p m)).trans (tAt p m)
    refine from_tabs (H := H) inK globs blt same lim bare tabs out hd main obj room F bind hT (fun b u e => ?_) (fun b u e => ?_) (hsp H hT (.inl (.inr ⟨_, hA⟩))) (fun e s' => hCX _ e s')
    · by_cases hb : b = a
      · rw [hb, hA] at e
        exact .inl ⟨hb, ⟨_, _, (Option.some.inj e).symm⟩, own⟩
      · rw [hN b hb] at e
        exact .inr (tEl b u e).2
    · by_cases hb : b = a
      · subst hb
        rw [hA] at e
        cases e
        exact ⟨obj, by rw [List.length_map]; exact size, vs, _, rv, obj⟩
      · rw [hN b hb] at e
        obtain ⟨rfl, p, m, rfl⟩ := tEl b u e
        exact tabs p m
  · have w0 := inK a o own
    rw [obj] at w0
    cases w0
    exact from_tabs (H := T) inK globs blt same lim bare tabs out hd main obj room F bind tAt (fun b u e => .inr (tEl b u e).2) tOk
      (hsp T tAt (.inr ⟨_, vs.toArray, _, own, rfl, rfl, rfl, by rw [List.size_toArray, cnt]; exact size, by simpa using rv⟩)) (fun e s' => hCX _ e s')
end
/-- what the head gives of the law: cs, the code objects and their tables -/
def LawT (l : PySem.W.OpenLaw) (w : World) (K : PySem.W.Frag) (k n : Nat) (x : Str) (mg : Str → Option Value) (fa : Addr) (h : Heap) : Prop :=
  ∃ (fd : FuncData) (cs : List (Addr × Addr)) (sp : Sp), (∀ p ∈ cs, h.get? p.2 = some { cls := .none, data := .fields #[] }) ∧ (∀ p ∈ cs, K.lookup p.2 = none) ∧ (∀ p ∈ cs, PySem.W.codeHdIn K p.1 p.2 = true) ∧ (∀ (s : Shared) (u : Value), BindsTo s fd ⟨[u], []⟩ [(x, u)]) ∧
    (∀ (H : Hp) (a : Addr) (ns : List Int), ns.length ≤ n → (∀ p ∈ cs, H p.2 = some (.tbl #[])) → SqL K H a (ns.map V.int) → sp [.ref a] H (fun v _ => v = .bl true) fun _ _ _ => False) ∧
    ∀ base : Heap, K.In base → base.Ns mainGlobals mg → (∀ p ∈ cs, TabB base mg p.1 p.2) → FnG l.prog w K mg base CX0 k fa fd [x] sp
theorem walk_tabs {l : PySem.W.OpenLaw} {n k : Nat} {q : Program} {loose : List Str} {XP : (Str → Option Value) → Heap → Prop} {YP : World → Heap → Prop} {d : DefRec} {K : Params → PySem.W.Frag} {x : Str}
    (most : l.most = some n) (fits : n ≤ sizeLine) (plain : d.params.defaults = []) (room : Room k callerA) (kin : ∀ (w : World) (g : Heap), YP w g → (K w.params).In g)
    (F : ∀ (w : World) (mg : Str → Option Value) (fa : Addr) (g : Heap), YP w g → (K w.params).In g → g.Ns mainGlobals mg → mg d.name = some (.ref fa) → LawT l w (K w.params) k n x mg fa g) :
    PySem.W.WalkO q loose XP YP l.row.toRowW d [] (fun f vs => PySem.call f vs) := by
  refine Att.attach_callB most plain fun w t0 t1 mg mb fa ob pm cd doc ar vs ns Gd Yd _ _ _ nmf ob2 iz len bits gen => ?_
  have KX := kin w _ Yd
  obtain ⟨fd, cs, sp, T1, T2, T3, bnd, prom, fn⟩ := F w mg fa _ Yd KX Gd.T.g nmf
  exact law_tabs KX Gd.T.g Gd.T.b Gd.T.builtins Gd.T.nolimit gen T1 T2 T3 Gd.T.bmain ob2 iz (Nat.le_trans len fits) room fn bnd (fun H hH hS => prom H ar ns len hH hS) fun H e s' z => z
end Gt

namespace R0
open PySem PySem.Spec PyProof.Rows L2 Hb St Sq Ow En Zp RZ Rd Xb Da LamX Lc Ty Gu Sm Rp
def ro3v : List Value → List Value → List Value
  | vs, [a, b, c] => vs ++ [c, b, a]
  | vs, zs => vs ++ zs
def ro2v : List Value → List Value → List Value
  | vs, [a, b] => vs ++ [b, a]
  | vs, zs => vs ++ zs
theorem ro3_rel {vs : List V} {us : List Value} {zs : List V} {ws : List Value} (r1 : Vals vs us) (r2 : Vals zs ws) : Vals (ro3 vs zs) (ro3v us ws) := by
  match zs, ws, r2 with
  | _, _, .nil => exact r1.append .nil
  | _, _, .cons a .nil => exact r1.append (.cons a .nil)
  | _, _, .cons a (.cons b .nil) => exact r1.append (.cons a (.cons b .nil))
  | _, _, .cons a (.cons b (.cons c .nil)) => exact r1.append (.cons c (.cons b (.cons a .nil)))
  | _, _, .cons a (.cons b (.cons c (.cons d r))) => exact r1.append (.cons a (.cons b (.cons c (.cons d r))))
theorem ro2_rel {vs : List V} {us : List Value} {zs : List V} {ws : List Value} (r1 : Vals vs us) (r2 : Vals zs ws) : Vals (ro2 vs zs) (ro2v us ws) := by
  match zs, ws, r2 with
  | _, _, .nil => exact r1.append .nil
  | _, _, .cons a .nil => exact r1.append (.cons a .nil)
  | _, _, .cons a (.cons b .nil) => exact r1.append (.cons b (.cons a .nil))
  | _, _, .cons a (.cons b (.cons c r)) => exact r1.append (.cons a (.cons b (.cons c r)))
theorem all_mk {l : PySem.W.OpenLaw} {w : World} {K : PySem.W.Frag} {h : Heap} {mg : Str → Option Value} {fa f_is_name f_is_lot f_is_tale f_is_integer f_is_number f_is_count f_is_sequence f_are_rooms f_is_step f_is_join f_event_lot f_read_integer f_may_follow f_read_room f_read_join f__law_deal f__law_draw f__law_pick f__law_lots f__law_tale f__law_steps f__law_joins f__law_rooms f__law_text f__law_wrong : Addr} (X : K.In h) (G : h.Ns mainGlobals mg) (hfa : mg "law" = some (.ref fa)) {B C CR CT CN eg ec dT pR : Addr} {tkL tkM tkV tkR : Tok} {dO : Obj} {dn : Nat} {N_r fI_r : Addr} {nm_r q_r : Str} {bs_r : List Value} {sn_r : List Str} {sub_r : List Value} {ab_r : Bool} {col_r : Option Bool} {dd_r : Option Addr} {m0_r m1_r m2_r m3_r m5_r : Option Value} {ocI_r dcI_r pmI_r cdI_r ctI_r : Value} {odI_r anI_r : Option Addr} {slI_r : Array (Option Value)} {N_t fI_t : Addr} {nm_t q_t : Str} {bs_t : List Value} {sn_t : List Str} {sub_t : List Value} {ab_t : Bool} {col_t : Option Bool} {dd_t : Option Addr} {m0_t m1_t m2_t m3_t m5_t : Option Value} {ocI_t dcI_t pmI_t cdI_t ctI_t : Value} {odI_t anI_t : Option Addr} {slI_t : Array (Option Value)} {N_n fI_n : Addr} {nm_n q_n : Str} {bs_n : List Value} {sn_n : List Str} {sub_n : List Value} {ab_n : Bool} {col_n : Option Bool} {dd_n : Option Addr} {m0_n m1_n m2_n m3_n m5_n : Option Value} {ocI_n dcI_n pmI_n cdI_n ctI_n : Value} {odI_n anI_n : Option Addr} {slI_n : Array (Option Value)} {g_KE c_KE P_KE : Addr} {odKE anKE ddKE : Option Addr} {slKE svKE : Array (Option Value)} {ocKE kVKE dcKE pmKE ctKE clKE : Value} {vsKE : Array Value} {g_RE c_RE P_RE : Addr} {odRE anRE ddRE : Option Addr} {slRE svRE : Array (Option Value)} {ocRE kVRE dcRE pmRE ctRE clRE : Value} {vsRE : Array Value} {g_RD c_RD P_RD : Addr} {odRD anRD ddRD : Option Addr} {slRD svRD : Array (Option Value)} {ocRD kVRD dcRD pmRD ctRD clRD : Value} {vsRD : Array Value} {c_LW : Addr} {odLW anLW : Option Addr} {slLW : Array (Option Value)} {ocLW kVLW dcLW pmLW ctLW : Value} {fm___init__ : Addr} {odm___init__ anm___init__ : Option Addr} {slm___init__ : Array (Option Value)} {ocm___init__ kVm___init__ dcm___init__ pmm___init__ cdm___init__ ctm___init__ : Value} {fm___eq__ : Addr} {odm___eq__ anm___eq__ : Option Addr} {slm___eq__ : Array (Option Value)} {ocm___eq__ kVm___eq__ dcm___eq__ pmm___eq__ cdm___eq__ ctm___eq__ : Value} {fm_many_lots : Addr} {odm_many_lots anm_many_lots : Option Addr} {slm_many_lots : Array (Option Value)} {ocm_many_lots kVm_many_lots dcm_many_lots pmm_many_lots cdm_many_lots ctm_many_lots : Value} {fm_lot_of : Addr} {odm_lot_of anm_lot_of : Option Addr} {slm_lot_of : Array (Option Value)} {ocm_lot_of kVm_lot_of dcm_lot_of pmm_lot_of cdm_lot_of ctm_lot_of : Value} {fm_step_of : Addr} {odm_step_of anm_step_of : Option Addr} {slm_step_of : Array (Option Value)} {ocm_step_of kVm_step_of dcm_step_of pmm_step_of cdm_step_of ctm_step_of : Value} {fm_with_gong : Addr} {odm_with_gong anm_with_gong : Option Addr} {slm_with_gong : Array (Option Value)} {ocm_with_gong kVm_with_gong dcm_with_gong pmm_with_gong cdm_with_gong ctm_with_gong : Value} {fm_with_call : Addr} {odm_with_call anm_with_call : Option Addr} {slm_with_call : Array (Option Value)} {ocm_with_call kVm_with_call dcm_with_call pmm_with_call cdm_with_call ctm_with_call : Value} {fm_without_joins : Addr} {odm_without_joins anm_without_joins : Option Addr} {slm_without_joins : Array (Option Value)} {ocm_without_joins kVm_without_joins dcm_without_joins pmm_without_joins cdm_without_joins ctm_without_joins : Value} {fm_text : Addr} {odm_text anm_text : Option Addr} {slm_text : Array (Option Value)} {ocm_text kVm_text dcm_text pmm_text cdm_text ctm_text : Value} {fm_read : Addr} {odm_read anm_read : Option Addr} {slm_read : Array (Option Value)} {ocm_read kVm_read dcm_read pmm_read cdm_read ctm_read : Value} {oE oF : Obj} {nE nF : Nat} {f_LW : Addr} {rst : List Value}
    {od0 an0 od1 an1 od2 an2 od3 an3 od4 an4 od5 an5 od6 an6 od7 an7 od8 an8 od9 an9 od10 an10 od11 an11 od12 an12 od13 an13 od14 an14 od15 an15 od16 an16 od17 an17 od18 an18 od19 an19 od20 an20 od21 an21 od22 an22 od23 an23 od24 an24 : Option Addr} {sl0 sl1 sl2 sl3 sl4 sl5 sl6 sl7 sl8 sl9 sl10 sl11 sl12 sl13 sl14 sl15 sl16 sl17 sl18 sl19 sl20 sl21 sl22 sl23 sl24 : Array (Option Value)} {oc0 kV0 dc0 pm0 cd0 ct0 oc1 kV1 dc1 pm1 cd1 ct1 oc2 kV2 dc2 pm2 cd2 ct2 oc3 kV3 dc3 pm3 cd3 ct3 oc4 kV4 dc4 pm4 cd4 ct4 oc5 kV5 dc5 pm5 cd5 ct5 oc6 kV6 dc6 pm6 cd6 ct6 oc7 kV7 dc7 pm7 cd7 ct7 oc8 kV8 dc8 pm8 cd8 ct8 oc9 kV9 dc9 pm9 cd9 ct9 oc10 kV10 dc10 pm10 cd10 ct10 oc11 kV11 dc11 pm11 cd11 ct11 oc12 kV12 dc12 pm12 cd12 ct12 oc13 kV13 dc13 pm13 cd13 ct13 oc14 kV14 dc14 pm14 cd14 ct14 oc15 kV15 dc15 pm15 cd15 ct15 oc16 kV16 dc16 pm16 cd16 ct16 oc17 kV17 dc17 pm17 cd17 ct17 oc18 kV18 dc18 pm18 cd18 ct18 oc19 kV19 dc19 pm19 cd19 ct19 oc20 kV20 dc20 pm20 cd20 ct20 oc21 kV21 dc21 pm21 cd21 ct21 oc22 kV22 dc22 pm22 cd22 ct22 oc23 kV23 dc23 pm23 cd23 ct23 oc24 kV24 dc24 pm24 cd24 ct24 : Value}
    (aB : PySem.W.nsIn K mainGlobals "BellError" = some (some (.ref B)))
    (aC_r : PySem.W.nsIn K mainGlobals "InvalidRooms" = some (some (.ref CR)))
    (xL_r : K.lookup CR = some (PySem.excClassObj nm_r q_r CR N_r bs_r [.ref B, .type "Exception", .type "BaseException", .type "object"] true sn_r sub_r ab_r col_r dd_r m0_r m1_r m2_r m3_r m5_r "Exception.__new__"))
    (sa_r : PySem.W.findIn K (.ref CR) "__setattr__" = some (some (.builtin "object.__setattr__")))
    (ga_r : PySem.W.findIn K (.ref CR) "__getattribute__" = some (some (.builtin "BaseException.__getattribute__")))
    (gg_r : PySem.W.findIn K (.ref CR) "__getattr__" = some none)
    (nb_r : PySem.W.findIn K (.ref CR) "at" = some none)
    (aI_r : PySem.W.findIn K (.ref CR) "__init__" = some (some (.ref fI_r)))
    (tI_r : PySem.W.typeIn K (.ref fI_r) = some (.type "function"))
    (lI_r : K.lookup fI_r = some ⟨ocI_r, odI_r, .func (PySem.W.fnOf "__init__" "InvalidRooms.__init__" (Xb.iA ⟨10, 17, 10, 21⟩ ⟨10, 23, 10, 25⟩) (Xb.iB ⟨11, 8, 11, 12⟩ ⟨11, 8, 11, 15⟩ ⟨11, 18, 11, 20⟩ ⟨11, 8, 11, 20⟩) Xb.iS .none .none dcI_r pmI_r anI_r cdI_r ctI_r), slI_r⟩)
    (cI_r : PySem.W.codeIn K cdI_r "InvalidRooms.__init__" = true)
    (kC_r : PySem.W.keepIn K (.ref CR) = true)
    (eC_r : PySem.W.subIn K (.ref CR) (.type "BaseException") = some true)
    (tC_r : PySem.W.typeIn K (.ref CR) = some (.type "type"))
    (hC_r : PySem.W.hasDictIn K CR = true)
    (sC_r : PySem.W.subIn K (.ref CR) (.ref CR) = some true)
    (ic_r : (PySem.W.clsIn K CR).isSome = true)
    (c1_r : PySem.W.findIn K (.ref CR) "__class__" = some (some (.builtin "object.__class__")))
    (c4_r : PySem.W.mroIn K CR (.type "object") = some true)
    (kb_r : PySem.W.kitOne K (.ref CR) (.ref B) = some true)
    (aC_t : PySem.W.nsIn K mainGlobals "InvalidText" = some (some (.ref CT)))
    (xL_t : K.lookup CT = some (PySem.excClassObj nm_t q_t CT N_t bs_t [.ref B, .type "Exception", .type "BaseException", .type "object"] true sn_t sub_t ab_t col_t dd_t m0_t m1_t m2_t m3_t m5_t "Exception.__new__"))
    (sa_t : PySem.W.findIn K (.ref CT) "__setattr__" = some (some (.builtin "object.__setattr__")))
    (ga_t : PySem.W.findIn K (.ref CT) "__getattribute__" = some (some (.builtin "BaseException.__getattribute__")))
    (gg_t : PySem.W.findIn K (.ref CT) "__getattr__" = some none)
    (nb_t : PySem.W.findIn K (.ref CT) "at" = some none)
    (aI_t : PySem.W.findIn K (.ref CT) "__init__" = some (some (.ref fI_t)))
    (tI_t : PySem.W.typeIn K (.ref fI_t) = some (.type "function"))
    (lI_t : K.lookup fI_t = some ⟨ocI_t, odI_t, .func (PySem.W.fnOf "__init__" "InvalidText.__init__" (Xb.iA ⟨6, 17, 6, 21⟩ ⟨6, 23, 6, 25⟩) (Xb.iB ⟨7, 8, 7, 12⟩ ⟨7, 8, 7, 15⟩ ⟨7, 18, 7, 20⟩ ⟨7, 8, 7, 20⟩) Xb.iS .none .none dcI_t pmI_t anI_t cdI_t ctI_t), slI_t⟩)
    (cI_t : PySem.W.codeIn K cdI_t "InvalidText.__init__" = true)
    (kC_t : PySem.W.keepIn K (.ref CT) = true)
    (eC_t : PySem.W.subIn K (.ref CT) (.type "BaseException") = some true)
    (tC_t : PySem.W.typeIn K (.ref CT) = some (.type "type"))
    (hC_t : PySem.W.hasDictIn K CT = true)
    (sC_t : PySem.W.subIn K (.ref CT) (.ref CT) = some true)
    (ic_t : (PySem.W.clsIn K CT).isSome = true)
    (c1_t : PySem.W.findIn K (.ref CT) "__class__" = some (some (.builtin "object.__class__")))
    (c4_t : PySem.W.mroIn K CT (.type "object") = some true)
    (kb_t : PySem.W.kitOne K (.ref CT) (.ref B) = some true)
    (aC_n : PySem.W.nsIn K mainGlobals "NoName" = some (some (.ref CN)))
    (xL_n : K.lookup CN = some (PySem.excClassObj nm_n q_n CN N_n bs_n Xk.exB true sn_n sub_n ab_n col_n dd_n m0_n m1_n m2_n m3_n m5_n "LookupError.__new__"))
    (sa_n : PySem.W.findIn K (.ref CN) "__setattr__" = some (some (.builtin "object.__setattr__")))
    (ga_n : PySem.W.findIn K (.ref CN) "__getattribute__" = some (some (.builtin "BaseException.__getattribute__")))
    (gg_n : PySem.W.findIn K (.ref CN) "__getattr__" = some none)
    (nb_n : PySem.W.findIn K (.ref CN) "name" = some none)
    (aI_n : PySem.W.findIn K (.ref CN) "__init__" = some (some (.ref fI_n)))
    (tI_n : PySem.W.typeIn K (.ref fI_n) = some (.type "function"))
    (lI_n : K.lookup fI_n = some ⟨ocI_n, odI_n, .func (PySem.W.fnOf "__init__" "NoName.__init__" (Xk.iA ⟨14, 17, 14, 21⟩ ⟨14, 23, 14, 27⟩) (Xk.iB ⟨15, 8, 15, 12⟩ ⟨15, 8, 15, 17⟩ ⟨15, 20, 15, 24⟩ ⟨15, 8, 15, 24⟩) Xk.iS .none .none dcI_n pmI_n anI_n cdI_n ctI_n), slI_n⟩)
    (cI_n : PySem.W.codeIn K cdI_n "NoName.__init__" = true)
    (kC_n : PySem.W.keepIn K (.ref CN) = true)
    (eC_n : PySem.W.subIn K (.ref CN) (.type "BaseException") = some true)
    (tC_n : PySem.W.typeIn K (.ref CN) = some (.type "type"))
    (hC_n : PySem.W.hasDictIn K CN = true)
    (sC_n : PySem.W.subIn K (.ref CN) (.ref CN) = some true)
    (ic_n : (PySem.W.clsIn K CN).isSome = true)
    (c1_n : PySem.W.findIn K (.ref CN) "__class__" = some (some (.builtin "object.__class__")))
    (c4_n : PySem.W.mroIn K CN (.type "object") = some true)
    (kb_n : PySem.W.kitOne K (.ref CN) (.ref B) = some false)
    (xc2 : PySem.W.specialIn K (.builtin "object.__class__") "__get__" = some (some (.builtin "getset_descriptor.__get__")))
    (xc3 : PySem.W.takesIn K (.builtin "object.__class__") = some true)
    (kk_n : PySem.W.kitOne K (.ref CN) (.type "KeyError") = some true)
    (s10 : PySem.W.subIn K (.ref CT) (.ref CR) = some false)
    (s20 : PySem.W.subIn K (.ref CN) (.ref CR) = some false)
    (s21 : PySem.W.subIn K (.ref CN) (.ref CT) = some false)
    (aR : PySem.W.nsIn K mainGlobals "Rooms" = some (some (.ref C)))
    (rpg : PySem.W.plainGet K C Str.empty = true)
    (rhd : PySem.W.hasDictIn K C = true)
    (rpo : PySem.W.plainOver K C = true)
    (rsa : PySem.W.findIn K (.ref C) "__setattr__" = some (some (.builtin "object.__setattr__")))
    (rnR : PySem.W.findIn K (.ref C) "rooms" = some none)
    (rnG : PySem.W.findIn K (.ref C) "gongs" = some none)
    (rnC : PySem.W.findIn K (.ref C) "calls" = some none)
    (rx1 : PySem.W.findIn K (.ref C) "__class__" = some (some (.builtin "object.__class__")))
    (rx4 : PySem.W.mroIn K C (.type "object") = some true)
    (rkC : PySem.W.kitOne K (.ref C) (.ref C) = some true)
    (rkS : PySem.W.kitOne K (.type "str") (.ref C) = some false)
    (rsS : PySem.W.subIn K (.type "str") (.ref C) = some false)
    (rne : PySem.W.findIn K (.ref C) "__ne__" = some (some (.builtin "object.__ne__")))
    (rmk : PySem.W.makesIn K C = true)
    (rkp : PySem.W.keepIn K (.ref C) = true)
    (drd : PySem.W.readsIn K C (.type "type") = true)
    (dga : PySem.W.specialIn K (.ref C) "__getattribute__" = some (some (.builtin "type.__getattribute__")))
    (dat : PySem.W.findCls K (.ref C) (.type "type") "read" = some (.get (.builtin "staticmethod.__get__") (.ref pR) .none (.ref C)))
    (drc : PySem.W.recIn K pR "staticmethod" = some (.ref fm_read :: rst))
    (am___init__ : PySem.W.findIn K (.ref C) "__init__" = some (some (.ref fm___init__)))
    (lm___init__ : K.lookup fm___init__ = some ⟨ocm___init__, odm___init__, .func (PySem.W.fnOf "__init__" "Rooms.__init__" (defArgs s_Rooms___init__) (defBody s_Rooms___init__) (defScope s_Rooms___init__) (.ref dT) kVm___init__ dcm___init__ pmm___init__ anm___init__ cdm___init__ ctm___init__), slm___init__⟩)
    (cm___init__ : PySem.W.codeIn K cdm___init__ "Rooms.__init__" = true)
    (km___init__ : PySem.W.keepIn K (.ref fm___init__) = true)
    (im___init__ : PySem.W.isFn K (.ref fm___init__) = true)
    (am___eq__ : PySem.W.findIn K (.ref C) "__eq__" = some (some (.ref fm___eq__)))
    (lm___eq__ : K.lookup fm___eq__ = some ⟨ocm___eq__, odm___eq__, .func (PySem.W.fnOf "__eq__" "Rooms.__eq__" (defArgs s_Rooms___eq__) (defBody s_Rooms___eq__) (defScope s_Rooms___eq__) .none kVm___eq__ dcm___eq__ pmm___eq__ anm___eq__ cdm___eq__ ctm___eq__), slm___eq__⟩)
    (cm___eq__ : PySem.W.codeIn K cdm___eq__ "Rooms.__eq__" = true)
    (km___eq__ : PySem.W.keepIn K (.ref fm___eq__) = true)
    (im___eq__ : PySem.W.isFn K (.ref fm___eq__) = true)
    (am_many_lots : PySem.W.findIn K (.ref C) "many_lots" = some (some (.ref fm_many_lots)))
    (lm_many_lots : K.lookup fm_many_lots = some ⟨ocm_many_lots, odm_many_lots, .func (PySem.W.fnOf "many_lots" "Rooms.many_lots" (defArgs s_Rooms_many_lots) (defBody s_Rooms_many_lots) (defScope s_Rooms_many_lots) .none kVm_many_lots dcm_many_lots pmm_many_lots anm_many_lots cdm_many_lots ctm_many_lots), slm_many_lots⟩)
    (cm_many_lots : PySem.W.codeIn K cdm_many_lots "Rooms.many_lots" = true)
    (km_many_lots : PySem.W.keepIn K (.ref fm_many_lots) = true)
    (im_many_lots : PySem.W.isFn K (.ref fm_many_lots) = true)
    (am_lot_of : PySem.W.findIn K (.ref C) "lot_of" = some (some (.ref fm_lot_of)))
    (lm_lot_of : K.lookup fm_lot_of = some ⟨ocm_lot_of, odm_lot_of, .func (PySem.W.fnOf "lot_of" "Rooms.lot_of" (defArgs s_Rooms_lot_of) (defBody s_Rooms_lot_of) (defScope s_Rooms_lot_of) .none kVm_lot_of dcm_lot_of pmm_lot_of anm_lot_of cdm_lot_of ctm_lot_of), slm_lot_of⟩)
    (cm_lot_of : PySem.W.codeIn K cdm_lot_of "Rooms.lot_of" = true)
    (km_lot_of : PySem.W.keepIn K (.ref fm_lot_of) = true)
    (im_lot_of : PySem.W.isFn K (.ref fm_lot_of) = true)
    (am_step_of : PySem.W.findIn K (.ref C) "step_of" = some (some (.ref fm_step_of)))
    (lm_step_of : K.lookup fm_step_of = some ⟨ocm_step_of, odm_step_of, .func (PySem.W.fnOf "step_of" "Rooms.step_of" (defArgs s_Rooms_step_of) (defBody s_Rooms_step_of) (defScope s_Rooms_step_of) .none kVm_step_of dcm_step_of pmm_step_of anm_step_of cdm_step_of ctm_step_of), slm_step_of⟩)
    (cm_step_of : PySem.W.codeIn K cdm_step_of "Rooms.step_of" = true)
    (km_step_of : PySem.W.keepIn K (.ref fm_step_of) = true)
    (im_step_of : PySem.W.isFn K (.ref fm_step_of) = true)
    (am_with_gong : PySem.W.findIn K (.ref C) "with_gong" = some (some (.ref fm_with_gong)))
    (lm_with_gong : K.lookup fm_with_gong = some ⟨ocm_with_gong, odm_with_gong, .func (PySem.W.fnOf "with_gong" "Rooms.with_gong" (defArgs s_Rooms_with_gong) (defBody s_Rooms_with_gong) (defScope s_Rooms_with_gong) .none kVm_with_gong dcm_with_gong pmm_with_gong anm_with_gong cdm_with_gong ctm_with_gong), slm_with_gong⟩)
    (cm_with_gong : PySem.W.codeIn K cdm_with_gong "Rooms.with_gong" = true)
    (km_with_gong : PySem.W.keepIn K (.ref fm_with_gong) = true)
    (im_with_gong : PySem.W.isFn K (.ref fm_with_gong) = true)
    (am_with_call : PySem.W.findIn K (.ref C) "with_call" = some (some (.ref fm_with_call)))
    (lm_with_call : K.lookup fm_with_call = some ⟨ocm_with_call, odm_with_call, .func (PySem.W.fnOf "with_call" "Rooms.with_call" (defArgs s_Rooms_with_call) (defBody s_Rooms_with_call) (defScope s_Rooms_with_call) .none kVm_with_call dcm_with_call pmm_with_call anm_with_call cdm_with_call ctm_with_call), slm_with_call⟩)
    (cm_with_call : PySem.W.codeIn K cdm_with_call "Rooms.with_call" = true)
    (km_with_call : PySem.W.keepIn K (.ref fm_with_call) = true)
    (im_with_call : PySem.W.isFn K (.ref fm_with_call) = true)
    (am_without_joins : PySem.W.findIn K (.ref C) "without_joins" = some (some (.ref fm_without_joins)))
    (lm_without_joins : K.lookup fm_without_joins = some ⟨ocm_without_joins, odm_without_joins, .func (PySem.W.fnOf "without_joins" "Rooms.without_joins" (defArgs s_Rooms_without_joins) (defBody s_Rooms_without_joins) (defScope s_Rooms_without_joins) .none kVm_without_joins dcm_without_joins pmm_without_joins anm_without_joins cdm_without_joins ctm_without_joins), slm_without_joins⟩)
    (cm_without_joins : PySem.W.codeIn K cdm_without_joins "Rooms.without_joins" = true)
    (km_without_joins : PySem.W.keepIn K (.ref fm_without_joins) = true)
    (im_without_joins : PySem.W.isFn K (.ref fm_without_joins) = true)
    (am_text : PySem.W.findIn K (.ref C) "text" = some (some (.ref fm_text)))
    (lm_text : K.lookup fm_text = some ⟨ocm_text, odm_text, .func (PySem.W.fnOf "text" "Rooms.text" (defArgs s_Rooms_text) (defBody s_Rooms_text) (defScope s_Rooms_text) .none kVm_text dcm_text pmm_text anm_text cdm_text ctm_text), slm_text⟩)
    (cm_text : PySem.W.codeIn K cdm_text "Rooms.text" = true)
    (km_text : PySem.W.keepIn K (.ref fm_text) = true)
    (im_text : PySem.W.isFn K (.ref fm_text) = true)
    (lm_read : K.lookup fm_read = some ⟨ocm_read, odm_read, .func (PySem.W.fnOf "read" "Rooms.read" (defArgs s_Rooms_read) (defBody s_Rooms_read) (defScope s_Rooms_read) .none kVm_read dcm_read pmm_read anm_read cdm_read ctm_read), slm_read⟩)
    (cm_read : PySem.W.codeIn K cdm_read "Rooms.read" = true)
    (km_read : PySem.W.keepIn K (.ref fm_read) = true)
    (eT : K.lookup dT = some dO)
    (eTd : dO.data = .seq #[.ref eg, .ref ec] dn)
    (eE : K.lookup eg = some oE)
    (eEd : oE.cls = .type "tuple" ∧ oE.data = .seq #[] nE)
    (eF : K.lookup ec = some oF)
    (eFd : oF.cls = .type "tuple" ∧ oF.data = .seq #[] nF)
    (a0 : PySem.W.nsIn K mainGlobals "is_name" = some (some (.ref f_is_name)))
    (l0 : K.lookup f_is_name = some ⟨oc0, od0, .func (PySem.W.fnOf "is_name" "is_name" (defArgs s_is_name) (defBody s_is_name) (defScope s_is_name) .none kV0 dc0 pm0 an0 cd0 ct0), sl0⟩)
    (c0 : PySem.W.codeIn K cd0 "is_name" = true)
    (k0 : PySem.W.keepIn K (.ref f_is_name) = true)
    (a1 : PySem.W.nsIn K mainGlobals "is_lot" = some (some (.ref f_is_lot)))
    (l1 : K.lookup f_is_lot = some ⟨oc1, od1, .func (PySem.W.fnOf "is_lot" "is_lot" (defArgs s_is_lot) (defBody s_is_lot) (defScope s_is_lot) .none kV1 dc1 pm1 an1 cd1 ct1), sl1⟩)
    (c1 : PySem.W.codeIn K cd1 "is_lot" = true)
    (k1 : PySem.W.keepIn K (.ref f_is_lot) = true)
    (a2 : PySem.W.nsIn K mainGlobals "is_tale" = some (some (.ref f_is_tale)))
    (l2 : K.lookup f_is_tale = some ⟨oc2, od2, .func (PySem.W.fnOf "is_tale" "is_tale" (defArgs s_is_tale) (defBody s_is_tale) (defScope s_is_tale) .none kV2 dc2 pm2 an2 cd2 ct2), sl2⟩)
    (c2 : PySem.W.codeIn K cd2 "is_tale" = true)
    (k2 : PySem.W.keepIn K (.ref f_is_tale) = true)
    (a3 : PySem.W.nsIn K mainGlobals "is_integer" = some (some (.ref f_is_integer)))
    (l3 : K.lookup f_is_integer = some ⟨oc3, od3, .func (PySem.W.fnOf "is_integer" "is_integer" (defArgs s_is_integer) (defBody s_is_integer) (defScope s_is_integer) .none kV3 dc3 pm3 an3 cd3 ct3), sl3⟩)
    (c3 : PySem.W.codeIn K cd3 "is_integer" = true)
    (k3 : PySem.W.keepIn K (.ref f_is_integer) = true)
    (a4 : PySem.W.nsIn K mainGlobals "is_number" = some (some (.ref f_is_number)))
    (l4 : K.lookup f_is_number = some ⟨oc4, od4, .func (PySem.W.fnOf "is_number" "is_number" (defArgs s_is_number) (defBody s_is_number) (defScope s_is_number) .none kV4 dc4 pm4 an4 cd4 ct4), sl4⟩)
    (c4 : PySem.W.codeIn K cd4 "is_number" = true)
    (k4 : PySem.W.keepIn K (.ref f_is_number) = true)
    (a5 : PySem.W.nsIn K mainGlobals "is_count" = some (some (.ref f_is_count)))
    (l5 : K.lookup f_is_count = some ⟨oc5, od5, .func (PySem.W.fnOf "is_count" "is_count" (defArgs s_is_count) (defBody s_is_count) (defScope s_is_count) .none kV5 dc5 pm5 an5 cd5 ct5), sl5⟩)
    (c5 : PySem.W.codeIn K cd5 "is_count" = true)
    (k5 : PySem.W.keepIn K (.ref f_is_count) = true)
    (a6 : PySem.W.nsIn K mainGlobals "is_sequence" = some (some (.ref f_is_sequence)))
    (l6 : K.lookup f_is_sequence = some ⟨oc6, od6, .func (PySem.W.fnOf "is_sequence" "is_sequence" (defArgs s_is_sequence) (defBody s_is_sequence) (defScope s_is_sequence) .none kV6 dc6 pm6 an6 cd6 ct6), sl6⟩)
    (c6 : PySem.W.codeIn K cd6 "is_sequence" = true)
    (k6 : PySem.W.keepIn K (.ref f_is_sequence) = true)
    (a7 : PySem.W.nsIn K mainGlobals "are_rooms" = some (some (.ref f_are_rooms)))
    (l7 : K.lookup f_are_rooms = some ⟨oc7, od7, .func (PySem.W.fnOf "are_rooms" "are_rooms" (defArgs s_are_rooms) (defBody s_are_rooms) (defScope s_are_rooms) .none kV7 dc7 pm7 an7 cd7 ct7), sl7⟩)
    (c7 : PySem.W.codeIn K cd7 "are_rooms" = true)
    (k7 : PySem.W.keepIn K (.ref f_are_rooms) = true)
    (a8 : PySem.W.nsIn K mainGlobals "is_step" = some (some (.ref f_is_step)))
    (l8 : K.lookup f_is_step = some ⟨oc8, od8, .func (PySem.W.fnOf "is_step" "is_step" (defArgs s_is_step) (defBody s_is_step) (defScope s_is_step) .none kV8 dc8 pm8 an8 cd8 ct8), sl8⟩)
    (c8 : PySem.W.codeIn K cd8 "is_step" = true)
    (k8 : PySem.W.keepIn K (.ref f_is_step) = true)
    (a9 : PySem.W.nsIn K mainGlobals "is_join" = some (some (.ref f_is_join)))
    (l9 : K.lookup f_is_join = some ⟨oc9, od9, .func (PySem.W.fnOf "is_join" "is_join" (defArgs s_is_join) (defBody s_is_join) (defScope s_is_join) .none kV9 dc9 pm9 an9 cd9 ct9), sl9⟩)
    (c9 : PySem.W.codeIn K cd9 "is_join" = true)
    (k9 : PySem.W.keepIn K (.ref f_is_join) = true)
    (a10 : PySem.W.nsIn K mainGlobals "event_lot" = some (some (.ref f_event_lot)))
    (l10 : K.lookup f_event_lot = some ⟨oc10, od10, .func (PySem.W.fnOf "event_lot" "event_lot" (defArgs s_event_lot) (defBody s_event_lot) (defScope s_event_lot) .none kV10 dc10 pm10 an10 cd10 ct10), sl10⟩)
    (c10 : PySem.W.codeIn K cd10 "event_lot" = true)
    (k10 : PySem.W.keepIn K (.ref f_event_lot) = true)
    (a11 : PySem.W.nsIn K mainGlobals "read_integer" = some (some (.ref f_read_integer)))
    (l11 : K.lookup f_read_integer = some ⟨oc11, od11, .func (PySem.W.fnOf "read_integer" "read_integer" (defArgs s_read_integer) (defBody s_read_integer) (defScope s_read_integer) .none kV11 dc11 pm11 an11 cd11 ct11), sl11⟩)
    (c11 : PySem.W.codeIn K cd11 "read_integer" = true)
    (k11 : PySem.W.keepIn K (.ref f_read_integer) = true)
    (a12 : PySem.W.nsIn K mainGlobals "may_follow" = some (some (.ref f_may_follow)))
    (l12 : K.lookup f_may_follow = some ⟨oc12, od12, .func (PySem.W.fnOf "may_follow" "may_follow" (defArgs s_may_follow) (defBody s_may_follow) (defScope s_may_follow) .none kV12 dc12 pm12 an12 cd12 ct12), sl12⟩)
    (c12 : PySem.W.codeIn K cd12 "may_follow" = true)
    (k12 : PySem.W.keepIn K (.ref f_may_follow) = true)
    (a13 : PySem.W.nsIn K mainGlobals "read_room" = some (some (.ref f_read_room)))
    (l13 : K.lookup f_read_room = some ⟨oc13, od13, .func (PySem.W.fnOf "read_room" "read_room" (defArgs s_read_room) (defBody s_read_room) (defScope s_read_room) .none kV13 dc13 pm13 an13 cd13 ct13), sl13⟩)
    (c13 : PySem.W.codeIn K cd13 "read_room" = true)
    (k13 : PySem.W.keepIn K (.ref f_read_room) = true)
    (a14 : PySem.W.nsIn K mainGlobals "read_join" = some (some (.ref f_read_join)))
    (l14 : K.lookup f_read_join = some ⟨oc14, od14, .func (PySem.W.fnOf "read_join" "read_join" (defArgs s_read_join) (defBody s_read_join) (defScope s_read_join) .none kV14 dc14 pm14 an14 cd14 ct14), sl14⟩)
    (c14 : PySem.W.codeIn K cd14 "read_join" = true)
    (k14 : PySem.W.keepIn K (.ref f_read_join) = true)
    (a15 : PySem.W.nsIn K mainGlobals "_law_deal" = some (some (.ref f__law_deal)))
    (l15 : K.lookup f__law_deal = some ⟨oc15, od15, .func (PySem.W.fnOf "_law_deal" "_law_deal" (defArgs s__law_deal) (defBody s__law_deal) (defScope s__law_deal) .none kV15 dc15 pm15 an15 cd15 ct15), sl15⟩)
    (c15 : PySem.W.codeIn K cd15 "_law_deal" = true)
    (k15 : PySem.W.keepIn K (.ref f__law_deal) = true)
    (a16 : PySem.W.nsIn K mainGlobals "_law_draw" = some (some (.ref f__law_draw)))
    (l16 : K.lookup f__law_draw = some ⟨oc16, od16, .func (PySem.W.fnOf "_law_draw" "_law_draw" (defArgs s__law_draw) (defBody s__law_draw) (defScope s__law_draw) .none kV16 dc16 pm16 an16 cd16 ct16), sl16⟩)
    (c16 : PySem.W.codeIn K cd16 "_law_draw" = true)
    (k16 : PySem.W.keepIn K (.ref f__law_draw) = true)
    (a17 : PySem.W.nsIn K mainGlobals "_law_pick" = some (some (.ref f__law_pick)))
    (l17 : K.lookup f__law_pick = some ⟨oc17, od17, .func (PySem.W.fnOf "_law_pick" "_law_pick" (defArgs s__law_pick) (defBody s__law_pick) (defScope s__law_pick) .none kV17 dc17 pm17 an17 cd17 ct17), sl17⟩)
    (c17 : PySem.W.codeIn K cd17 "_law_pick" = true)
    (k17 : PySem.W.keepIn K (.ref f__law_pick) = true)
    (a18 : PySem.W.nsIn K mainGlobals "_law_lots" = some (some (.ref f__law_lots)))
    (l18 : K.lookup f__law_lots = some ⟨oc18, od18, .func (PySem.W.fnOf "_law_lots" "_law_lots" (defArgs s__law_lots) (defBody s__law_lots) (defScope s__law_lots) .none kV18 dc18 pm18 an18 cd18 ct18), sl18⟩)
    (c18 : PySem.W.codeIn K cd18 "_law_lots" = true)
    (k18 : PySem.W.keepIn K (.ref f__law_lots) = true)
    (a19 : PySem.W.nsIn K mainGlobals "_law_tale" = some (some (.ref f__law_tale)))
    (l19 : K.lookup f__law_tale = some ⟨oc19, od19, .func (PySem.W.fnOf "_law_tale" "_law_tale" (defArgs s__law_tale) (defBody s__law_tale) (defScope s__law_tale) .none kV19 dc19 pm19 an19 cd19 ct19), sl19⟩)
    (c19 : PySem.W.codeIn K cd19 "_law_tale" = true)
    (k19 : PySem.W.keepIn K (.ref f__law_tale) = true)
    (a20 : PySem.W.nsIn K mainGlobals "_law_steps" = some (some (.ref f__law_steps)))
    (l20 : K.lookup f__law_steps = some ⟨oc20, od20, .func (PySem.W.fnOf "_law_steps" "_law_steps" (defArgs s__law_steps) (defBody s__law_steps) (defScope s__law_steps) .none kV20 dc20 pm20 an20 cd20 ct20), sl20⟩)
    (c20 : PySem.W.codeIn K cd20 "_law_steps" = true)
    (k20 : PySem.W.keepIn K (.ref f__law_steps) = true)
    (a21 : PySem.W.nsIn K mainGlobals "_law_joins" = some (some (.ref f__law_joins)))
    (l21 : K.lookup f__law_joins = some ⟨oc21, od21, .func (PySem.W.fnOf "_law_joins" "_law_joins" (defArgs s__law_joins) (defBody s__law_joins) (defScope s__law_joins) .none kV21 dc21 pm21 an21 cd21 ct21), sl21⟩)
    (c21 : PySem.W.codeIn K cd21 "_law_joins" = true)
    (k21 : PySem.W.keepIn K (.ref f__law_joins) = true)
    (a22 : PySem.W.nsIn K mainGlobals "_law_rooms" = some (some (.ref f__law_rooms)))
    (l22 : K.lookup f__law_rooms = some ⟨oc22, od22, .func (PySem.W.fnOf "_law_rooms" "_law_rooms" (defArgs s__law_rooms) (defBody s__law_rooms) (defScope s__law_rooms) .none kV22 dc22 pm22 an22 cd22 ct22), sl22⟩)
    (c22 : PySem.W.codeIn K cd22 "_law_rooms" = true)
    (k22 : PySem.W.keepIn K (.ref f__law_rooms) = true)
    (a23 : PySem.W.nsIn K mainGlobals "_law_text" = some (some (.ref f__law_text)))
    (l23 : K.lookup f__law_text = some ⟨oc23, od23, .func (PySem.W.fnOf "_law_text" "_law_text" (defArgs s__law_text) (defBody s__law_text) (defScope s__law_text) .none kV23 dc23 pm23 an23 cd23 ct23), sl23⟩)
    (c23 : PySem.W.codeIn K cd23 "_law_text" = true)
    (k23 : PySem.W.keepIn K (.ref f__law_text) = true)
    (a24 : PySem.W.nsIn K mainGlobals "_law_wrong" = some (some (.ref f__law_wrong)))
    (l24 : K.lookup f__law_wrong = some ⟨oc24, od24, .func (PySem.W.fnOf "_law_wrong" "_law_wrong" (defArgs s__law_wrong) (defBody s__law_wrong) (defScope s__law_wrong) .none kV24 dc24 pm24 an24 cd24 ct24), sl24⟩)
    (c24 : PySem.W.codeIn K cd24 "_law_wrong" = true)
    (k24 : PySem.W.keepIn K (.ref f__law_wrong) = true)
    (aLW : PySem.W.nsIn K mainGlobals "law" = some (some (.ref f_LW)))
    (lLW : K.lookup f_LW = some ⟨ocLW, odLW, .func (PySem.W.fnOf "law" "law" (defArgs s_law) (defBody s_law) (defScope s_law) .none kVLW dcLW pmLW anLW (.ref c_LW) ctLW), slLW⟩)
    (cLW : PySem.W.codeIn K (.ref c_LW) "law" = true)
    (aM_KE : PySem.W.nsIn K mainGlobals "_law_kept" = some (some (.ref g_KE)))
    (lM_KE : K.lookup g_KE = some ⟨ocKE, odKE, .func (PySem.W.fnOf "_law_kept" "_law_kept" (defArgs s__law_kept) (defBody s__law_kept) (defScope s__law_kept) .none kVKE dcKE pmKE anKE (.ref c_KE) ctKE), slKE⟩)
    (cM_KE : PySem.W.codeIn K (.ref c_KE) "_law_kept" = true)
    (kM_KE : PySem.W.keepIn K (.ref g_KE) = true)
    (lC_KE : K.lookup c_KE = some ⟨clKE, ddKE, .fields vsKE, svKE⟩)
    (vC_KE : (vsKE[11]? : Option Value) = some (.ref P_KE))
    (tT_KE : h.get? P_KE = some { cls := .none, data := .fields #[] })
    (nP_KE : K.lookup P_KE = none)
    (hC_KE : PySem.W.codeHdIn K c_KE P_KE = true)
    (aM_RE : PySem.W.nsIn K mainGlobals "_law_refused" = some (some (.ref g_RE)))
    (lM_RE : K.lookup g_RE = some ⟨ocRE, odRE, .func (PySem.W.fnOf "_law_refused" "_law_refused" (defArgs s__law_refused) (defBody s__law_refused) (defScope s__law_refused) .none kVRE dcRE pmRE anRE (.ref c_RE) ctRE), slRE⟩)
    (cM_RE : PySem.W.codeIn K (.ref c_RE) "_law_refused" = true)
    (kM_RE : PySem.W.keepIn K (.ref g_RE) = true)
    (lC_RE : K.lookup c_RE = some ⟨clRE, ddRE, .fields vsRE, svRE⟩)
    (vC_RE : (vsRE[11]? : Option Value) = some (.ref P_RE))
    (tT_RE : h.get? P_RE = some { cls := .none, data := .fields #[] })
    (nP_RE : K.lookup P_RE = none)
    (hC_RE : PySem.W.codeHdIn K c_RE P_RE = true)
    (aM_RD : PySem.W.nsIn K mainGlobals "_law_read" = some (some (.ref g_RD)))
    (lM_RD : K.lookup g_RD = some ⟨ocRD, odRD, .func (PySem.W.fnOf "_law_read" "_law_read" (defArgs s__law_read) (defBody s__law_read) (defScope s__law_read) .none kVRD dcRD pmRD anRD (.ref c_RD) ctRD), slRD⟩)
    (cM_RD : PySem.W.codeIn K (.ref c_RD) "_law_read" = true)
    (kM_RD : PySem.W.keepIn K (.ref g_RD) = true)
    (lC_RD : K.lookup c_RD = some ⟨clRD, ddRD, .fields vsRD, svRD⟩)
    (vC_RD : (vsRD[11]? : Option Value) = some (.ref P_RD))
    (tT_RD : h.get? P_RD = some { cls := .none, data := .fields #[] })
    (nP_RD : K.lookup P_RD = none)
    (hC_RD : PySem.W.codeHdIn K c_RD P_RD = true)
    (ne_RE_KE : P_RE ≠ P_KE)
    (ne_RD_KE : P_RD ≠ P_KE)
    (ne_RD_RE : P_RD ≠ P_RE)
    (z_KeyError : PySem.W.nsIn K mainGlobals "KeyError" = some none)
    (z_abs : PySem.W.nsIn K mainGlobals "abs" = some none)
    (z_all : PySem.W.nsIn K mainGlobals "all" = some none)
    (z_bool : PySem.W.nsIn K mainGlobals "bool" = some none)
    (z_enumerate : PySem.W.nsIn K mainGlobals "enumerate" = some none)
    (z_int : PySem.W.nsIn K mainGlobals "int" = some none)
    (z_isinstance : PySem.W.nsIn K mainGlobals "isinstance" = some none)
    (z_len : PySem.W.nsIn K mainGlobals "len" = some none)
    (z_list : PySem.W.nsIn K mainGlobals "list" = some none)
    (z_max : PySem.W.nsIn K mainGlobals "max" = some none)
    (z_min : PySem.W.nsIn K mainGlobals "min" = some none)
    (z_range : PySem.W.nsIn K mainGlobals "range" = some none)
    (z_repr : PySem.W.nsIn K mainGlobals "repr" = some none)
    (z_set : PySem.W.nsIn K mainGlobals "set" = some none)
    (z_sorted : PySem.W.nsIn K mainGlobals "sorted" = some none)
    (z_str : PySem.W.nsIn K mainGlobals "str" = some none)
    (z_tuple : PySem.W.nsIn K mainGlobals "tuple" = some none)
    (z_zip : PySem.W.nsIn K mainGlobals "zip" = some none)
    (gL : PySem.W.nsIn K mainGlobals "LETTERS" = some (some (.int 8 tkL)))
    (gM : PySem.W.nsIn K mainGlobals "MOST_ROOMS" = some (some (.int 3 tkM)))
    (gV : PySem.W.nsIn K mainGlobals "FIGURES_values" = some (some (.int 9 tkV)))
    (gR : PySem.W.nsIn K mainGlobals "FIGURES_rooms" = some (some (.int 4 tkR)))
    : Gt.LawT l w K 11 63 "script" mg fa h := by
  have e := hfa.symm.trans (PySem.W.mg_of X G aLW)
  cases e
  have F_is_name := fun_mk (st := s_is_name) l0 c0 k0
  have b_is_name := F_is_name.binds (ps := ["value"]) fun _ _ _ _ _ _ us hl => match us, hl with | [_], _ => rfl
  have m_is_name := PySem.W.mg_of X G a0
  have F_is_lot := fun_mk (st := s_is_lot) l1 c1 k1
  have b_is_lot := F_is_lot.binds (ps := ["value"]) fun _ _ _ _ _ _ us hl => match us, hl with | [_], _ => rfl
  have m_is_lot := PySem.W.mg_of X G a1
  have F_is_tale := fun_mk (st := s_is_tale) l2 c2 k2
  have b_is_tale := F_is_tale.binds (ps := ["value"]) fun _ _ _ _ _ _ us hl => match us, hl with | [_], _ => rfl
  have m_is_tale := PySem.W.mg_of X G a2
  have F_is_integer := fun_mk (st := s_is_integer) l3 c3 k3
  have b_is_integer := F_is_integer.binds (ps := ["value"]) fun _ _ _ _ _ _ us hl => match us, hl with | [_], _ => rfl
  have m_is_integer := PySem.W.mg_of X G a3
  have F_is_number := fun_mk (st := s_is_number) l4 c4 k4
  have b_is_number := F_is_number.binds (ps := ["value"]) fun _ _ _ _ _ _ us hl => match us, hl with | [_], _ => rfl
  have m_is_number := PySem.W.mg_of X G a4
  have F_is_count := fun_mk (st := s_is_count) l5 c5 k5
  have b_is_count := F_is_count.binds (ps := ["value"]) fun _ _ _ _ _ _ us hl => match us, hl with | [_], _ => rfl
  have m_is_count := PySem.W.mg_of X G a5
  have F_is_sequence := fun_mk (st := s_is_sequence) l6 c6 k6
  have b_is_sequence := F_is_sequence.binds (ps := ["value"]) fun _ _ _ _ _ _ us hl => match us, hl with | [_], _ => rfl
  have m_is_sequence := PySem.W.mg_of X G a6
  have F_are_rooms := fun_mk (st := s_are_rooms) l7 c7 k7
  have b_are_rooms := F_are_rooms.binds (ps := ["value"]) fun _ _ _ _ _ _ us hl => match us, hl with | [_], _ => rfl
  have m_are_rooms := PySem.W.mg_of X G a7
  have F_is_step := fun_mk (st := s_is_step) l8 c8 k8
  have b_is_step := F_is_step.binds (ps := ["many", "value"]) fun _ _ _ _ _ _ us hl => match us, hl with | [_, _], _ => rfl
  have m_is_step := PySem.W.mg_of X G a8
  have F_is_join := fun_mk (st := s_is_join) l9 c9 k9
  have b_is_join := F_is_join.binds (ps := ["many", "value"]) fun _ _ _ _ _ _ us hl => match us, hl with | [_, _], _ => rfl
  have m_is_join := PySem.W.mg_of X G a9
  have F_event_lot := fun_mk (st := s_event_lot) l10 c10 k10
  have b_event_lot := F_event_lot.binds (ps := ["tale", "name", "i"]) fun _ _ _ _ _ _ us hl => match us, hl with | [_, _, _], _ => rfl
  have m_event_lot := PySem.W.mg_of X G a10
  have F_read_integer := fun_mk (st := s_read_integer) l11 c11 k11
  have b_read_integer := F_read_integer.binds (ps := ["word"]) fun _ _ _ _ _ _ us hl => match us, hl with | [_], _ => rfl
  have m_read_integer := PySem.W.mg_of X G a11
  have F_may_follow := fun_mk (st := s_may_follow) l12 c12 k12
  have b_may_follow := F_may_follow.binds (ps := ["last", "word"]) fun _ _ _ _ _ _ us hl => match us, hl with | [_, _], _ => rfl
  have m_may_follow := PySem.W.mg_of X G a12
  have F_read_room := fun_mk (st := s_read_room) l13 c13 k13
  have b_read_room := F_read_room.binds (ps := ["text"]) fun _ _ _ _ _ _ us hl => match us, hl with | [_], _ => rfl
  have m_read_room := PySem.W.mg_of X G a13
  have F_read_join := fun_mk (st := s_read_join) l14 c14 k14
  have b_read_join := F_read_join.binds (ps := ["text"]) fun _ _ _ _ _ _ us hl => match us, hl with | [_], _ => rfl
  have m_read_join := PySem.W.mg_of X G a14
  have F__law_deal := fun_mk (st := s__law_deal) l15 c15 k15
  have b__law_deal := F__law_deal.binds (ps := ["script", "base"]) fun _ _ _ _ _ _ us hl => match us, hl with | [_, _], _ => rfl
  have m__law_deal := PySem.W.mg_of X G a15
  have F__law_draw := fun_mk (st := s__law_draw) l16 c16 k16
  have b__law_draw := F__law_draw.binds (ps := ["deal", "bound"]) fun _ _ _ _ _ _ us hl => match us, hl with | [_, _], _ => rfl
  have m__law_draw := PySem.W.mg_of X G a16
  have F__law_pick := fun_mk (st := s__law_pick) l17 c17 k17
  have b__law_pick := F__law_pick.binds (ps := ["deal", "some"]) fun _ _ _ _ _ _ us hl => match us, hl with | [_, _], _ => rfl
  have m__law_pick := PySem.W.mg_of X G a17
  have F__law_lots := fun_mk (st := s__law_lots) l18 c18 k18
  have b__law_lots := F__law_lots.binds (ps := ["some"]) fun _ _ _ _ _ _ us hl => match us, hl with | [_], _ => rfl
  have m__law_lots := PySem.W.mg_of X G a18
  have F__law_tale := fun_mk (st := s__law_tale) l19 c19 k19
  have b__law_tale := F__law_tale.binds (ps := ["deal", "many"]) fun _ _ _ _ _ _ us hl => match us, hl with | [_, _], _ => rfl
  have m__law_tale := PySem.W.mg_of X G a19
  have F__law_steps := fun_mk (st := s__law_steps) l20 c20 k20
  have b__law_steps := F__law_steps.binds (ps := ["rooms"]) fun _ _ _ _ _ _ us hl => match us, hl with | [_], _ => rfl
  have m__law_steps := PySem.W.mg_of X G a20
  have F__law_joins := fun_mk (st := s__law_joins) l21 c21 k21
  have b__law_joins := F__law_joins.binds (ps := ["deal", "rooms", "many"]) fun _ _ _ _ _ _ us hl => match us, hl with | [_, _, _], _ => rfl
  have m__law_joins := PySem.W.mg_of X G a21
  have F__law_rooms := fun_mk (st := s__law_rooms) l22 c22 k22
  have b__law_rooms := F__law_rooms.binds (ps := ["deal", "most"]) fun _ _ _ _ _ _ us hl => match us, hl with | [_, _], _ => rfl
  have m__law_rooms := PySem.W.mg_of X G a22
  have F__law_text := fun_mk (st := s__law_text) l23 c23 k23
  have b__law_text := F__law_text.binds (ps := ["rooms", "gongs", "calls"]) fun _ _ _ _ _ _ us hl => match us, hl with | [_, _, _], _ => rfl
  have m__law_text := PySem.W.mg_of X G a23
  have F__law_wrong := fun_mk (st := s__law_wrong) l24 c24 k24
  have b__law_wrong := F__law_wrong.binds (ps := ["work"]) fun _ _ _ _ _ _ us hl => match us, hl with | [_], _ => rfl
  have m__law_wrong := PySem.W.mg_of X G a24
  have n_KeyError := PySem.W.mg_none_of X G z_KeyError
  have n_abs := PySem.W.mg_none_of X G z_abs
  have n_all := PySem.W.mg_none_of X G z_all
  have n_bool := PySem.W.mg_none_of X G z_bool
  have n_enumerate := PySem.W.mg_none_of X G z_enumerate
  have n_int := PySem.W.mg_none_of X G z_int
  have n_isinstance := PySem.W.mg_none_of X G z_isinstance
  have n_len := PySem.W.mg_none_of X G z_len
  have n_list := PySem.W.mg_none_of X G z_list
  have n_max := PySem.W.mg_none_of X G z_max
  have n_min := PySem.W.mg_none_of X G z_min
  have n_range := PySem.W.mg_none_of X G z_range
  have n_repr := PySem.W.mg_none_of X G z_repr
  have n_set := PySem.W.mg_none_of X G z_set
  have n_sorted := PySem.W.mg_none_of X G z_sorted
  have n_str := PySem.W.mg_none_of X G z_str
  have n_tuple := PySem.W.mg_none_of X G z_tuple
  have n_zip := PySem.W.mg_none_of X G z_zip
  have g_L := PySem.W.mg_of X G gL
  have g_M := PySem.W.mg_of X G gM
  have g_FV := PySem.W.mg_of X G gV
  have g_FR := PySem.W.mg_of X G gR
  have g_Rooms := PySem.W.mg_of X G aR
  have T_r : Xb.ErrC K mg "InvalidRooms" CR fI_r := { gC := PySem.W.mg_of X G aC_r, cls := ⟨nm_r, q_r, N_r, bs_r, _, sn_r, sub_r, ab_r, col_r, dd_r, m0_r, m1_r, m2_r, m3_r, m5_r, xL_r, rfl⟩, sa := sa_r, ga := ga_r, gg := gg_r, noN := nb_r, iC := aI_r, tC := tI_r, kC := kC_r, exC := eC_r, tyC := tC_r, hdC := hC_r, te := PySem.W.exm_ref eC_r hC_r tC_r sC_r, fn := ⟨_, _, _, _, _, _, _, _, _, _, _, _, _, _, _, lI_r, cI_r⟩ }
  have I_r : Xb.IsC K CR := ⟨ic_r, ga_r, gg_r, eC_r, c1_r, xc2, xc3, c4_r⟩
  have T_t : Xb.ErrC K mg "InvalidText" CT fI_t := { gC := PySem.W.mg_of X G aC_t, cls := ⟨nm_t, q_t, N_t, bs_t, _, sn_t, sub_t, ab_t, col_t, dd_t, m0_t, m1_t, m2_t, m3_t, m5_t, xL_t, rfl⟩, sa := sa_t, ga := ga_t, gg := gg_t, noN := nb_t, iC := aI_t, tC := tI_t, kC := kC_t, exC := eC_t, tyC := tC_t, hdC := hC_t, te := PySem.W.exm_ref eC_t hC_t tC_t sC_t, fn := ⟨_, _, _, _, _, _, _, _, _, _, _, _, _, _, _, lI_t, cI_t⟩ }
  have I_t : Xb.IsC K CT := ⟨ic_t, ga_t, gg_t, eC_t, c1_t, xc2, xc3, c4_t⟩
  have T_n : Xk.ErrC K mg "NoName" CN fI_n := { gC := PySem.W.mg_of X G aC_n, cls := ⟨nm_n, q_n, N_n, bs_n, _, sn_n, sub_n, ab_n, col_n, dd_n, m0_n, m1_n, m2_n, m3_n, m5_n, xL_n, rfl⟩, sa := sa_n, ga := ga_n, gg := gg_n, noN := nb_n, iC := aI_n, tC := tI_n, kC := kC_n, exC := eC_n, tyC := tC_n, hdC := hC_n, te := PySem.W.exm_ref eC_n hC_n tC_n sC_n, fn := ⟨_, _, _, _, _, _, _, _, _, _, _, _, _, _, _, lI_n, cI_n⟩ }
  have I_n : Xb.IsC K CN := ⟨ic_n, ga_n, gg_n, eC_n, c1_n, xc2, xc3, c4_n⟩
  have W3 : WrC K mg CR CT CN B := { t0 := ⟨_, T_r⟩, t1 := ⟨_, T_t⟩, t2 := ⟨_, T_n⟩, i0 := I_r, i1 := I_t, i2 := I_n, gB := PySem.W.mg_of X G aB, nI := n_isinstance, nR := n_repr, nK := n_KeyError, k0 := kb_r, k1 := kb_t, k2 := kb_n, kk := kk_n, e10 := PySem.W.exm_ref eC_r hC_r tC_r s10, e20 := PySem.W.exm_ref eC_r hC_r tC_r s20, e21 := PySem.W.exm_ref eC_t hC_t tC_t s21 }
  have TC : RmT K C := ⟨⟨rpg, rhd, rpo, rsa⟩, rnR, rnG, rnC, rx1, xc2, xc3, rx4, rkC, rkS⟩
  have TE_ : EqC K C := ⟨rsS, rne, rx4⟩
  have SE : ∀ H, SqT K H eg [] := fun H => .inr ⟨oE, #[], nE, eE, eEd.1, eEd.2, Nat.zero_le _, .nil⟩
  have SF : ∀ H, SqT K H ec [] := fun H => .inr ⟨oF, #[], nF, eF, eFd.1, eFd.2, Nat.zero_le _, .nil⟩
  have Fm___init__ : FunD K "__init__" "Rooms.__init__" (defArgs s_Rooms___init__) (defBody s_Rooms___init__) (defScope s_Rooms___init__) [.ref eg, .ref ec] [] fm___init__ _ := ⟨⟨_, _, _, _, _, _, _, _, _, _, rfl, lm___init__, cm___init__, .inr ⟨by simp, dT, dO, [.ref eg, .ref ec], dn, rfl, eT, eTd, .cons rfl (.cons rfl .nil)⟩, .inl rfl⟩, km___init__⟩
  have Fm___eq__ : Fun K "__eq__" "Rooms.__eq__" s_Rooms___eq__ fm___eq__ _ := ⟨⟨_, _, _, _, _, _, _, _, _, rfl, lm___eq__, cm___eq__⟩, km___eq__⟩
  have bm___eq__ := Fm___eq__.binds (ps := ["self", "other"]) fun _ _ _ _ _ _ us hl => match us, hl with | [_, _], _ => rfl
  have Fm_many_lots : Fun K "many_lots" "Rooms.many_lots" s_Rooms_many_lots fm_many_lots _ := ⟨⟨_, _, _, _, _, _, _, _, _, rfl, lm_many_lots, cm_many_lots⟩, km_many_lots⟩
  have bm_many_lots := Fm_many_lots.binds (ps := ["self", "name"]) fun _ _ _ _ _ _ us hl => match us, hl with | [_, _], _ => rfl
  have Fm_lot_of : Fun K "lot_of" "Rooms.lot_of" s_Rooms_lot_of fm_lot_of _ := ⟨⟨_, _, _, _, _, _, _, _, _, rfl, lm_lot_of, cm_lot_of⟩, km_lot_of⟩
  have bm_lot_of := Fm_lot_of.binds (ps := ["self", "step"]) fun _ _ _ _ _ _ us hl => match us, hl with | [_, _], _ => rfl
  have Fm_step_of : Fun K "step_of" "Rooms.step_of" s_Rooms_step_of fm_step_of _ := ⟨⟨_, _, _, _, _, _, _, _, _, rfl, lm_step_of, cm_step_of⟩, km_step_of⟩
  have bm_step_of := Fm_step_of.binds (ps := ["self", "name", "bell", "turn"]) fun _ _ _ _ _ _ us hl => match us, hl with | [_, _, _, _], _ => rfl
  have Fm_with_gong : Fun K "with_gong" "Rooms.with_gong" s_Rooms_with_gong fm_with_gong _ := ⟨⟨_, _, _, _, _, _, _, _, _, rfl, lm_with_gong, cm_with_gong⟩, km_with_gong⟩
  have bm_with_gong := Fm_with_gong.binds (ps := ["self", "one", "other"]) fun _ _ _ _ _ _ us hl => match us, hl with | [_, _, _], _ => rfl
  have Fm_with_call : Fun K "with_call" "Rooms.with_call" s_Rooms_with_call fm_with_call _ := ⟨⟨_, _, _, _, _, _, _, _, _, rfl, lm_with_call, cm_with_call⟩, km_with_call⟩
  have bm_with_call := Fm_with_call.binds (ps := ["self", "one", "other"]) fun _ _ _ _ _ _ us hl => match us, hl with | [_, _, _], _ => rfl
  have Fm_without_joins : Fun K "without_joins" "Rooms.without_joins" s_Rooms_without_joins fm_without_joins _ := ⟨⟨_, _, _, _, _, _, _, _, _, rfl, lm_without_joins, cm_without_joins⟩, km_without_joins⟩
  have bm_without_joins := Fm_without_joins.binds (ps := ["self"]) fun _ _ _ _ _ _ us hl => match us, hl with | [_], _ => rfl
  have Fm_text : Fun K "text" "Rooms.text" s_Rooms_text fm_text _ := ⟨⟨_, _, _, _, _, _, _, _, _, rfl, lm_text, cm_text⟩, km_text⟩
  have bm_text := Fm_text.binds (ps := ["self"]) fun _ _ _ _ _ _ us hl => match us, hl with | [_], _ => rfl
  have Fm_read : Fun K "read" "Rooms.read" s_Rooms_read fm_read _ := ⟨⟨_, _, _, _, _, _, _, _, _, rfl, lm_read, cm_read⟩, km_read⟩
  have bm_read := Fm_read.binds (ps := ["text"]) fun _ _ _ _ _ _ us hl => match us, hl with | [_], _ => rfl
  have mM_KE := PySem.W.mg_of X G aM_KE
  have mM_RE := PySem.W.mg_of X G aM_RE
  have mM_RD := PySem.W.mg_of X G aM_RD
  let cs : List (Addr × Addr) := [(c_KE, P_KE), (c_RE, P_RE), (c_RD, P_RD)]
  let T : List (Addr × Str) := [(P_KE, qKept), (P_RE, qRefu), (P_RD, qRead)]
  have hTs : ∀ p ∈ cs, h.get? p.2 = some { cls := .none, data := .fields #[] } := by
    intro p hp
    simp only [cs, List.mem_cons, List.not_mem_nil, or_false] at hp
    rcases hp with rfl | rfl | rfl
    · exact tT_KE
    · exact tT_RE
    · exact tT_RD
  have hNs : ∀ p ∈ cs, K.lookup p.2 = none := by
    intro p hp
    simp only [cs, List.mem_cons, List.not_mem_nil, or_false] at hp
    rcases hp with rfl | rfl | rfl
    · exact nP_KE
    · exact nP_RE
    · exact nP_RD
  have hHs : ∀ p ∈ cs, PySem.W.codeHdIn K p.1 p.2 = true := by
    intro p hp
    simp only [cs, List.mem_cons, List.not_mem_nil, or_false] at hp
    rcases hp with rfl | rfl | rfl
    · exact hC_KE
    · exact hC_RE
    · exact hC_RD
  refine ⟨PySem.W.fnOf "law" "law" (defArgs s_law) (defBody s_law) (defScope s_law) .none kVLW dcLW pmLW anLW (.ref c_LW) ctLW, cs, spLaw K T, hTs, hNs, hHs, fun s v => .of_eq rfl, fun H a ns hl hT hS => ⟨a, ns, rfl, hS, hl, ?_, fun _ => rfl⟩, fun base _ _ hTB => ?_⟩
  · intro y hy
    simp only [T, List.mem_cons, List.not_mem_nil, or_false] at hy
    rcases hy with rfl | rfl | rfl
    · exact TabS.nil (hT (c_KE, P_KE) (by simp [cs]))
    · exact TabS.nil (hT (c_RE, P_RE) (by simp [cs]))
    · exact TabS.nil (hT (c_RD, P_RD) (by simp [cs]))
  have TB_KE := hTB (c_KE, P_KE) (by simp [cs])
  have in_KE : (P_KE, qKept) ∈ T := by simp [T]
  have one_KE : ∀ y ∈ T, y.1 = P_KE → y.2 = qKept := by
    intro y hy e
    simp only [T, List.mem_cons, List.not_mem_nil, or_false] at hy
    rcases hy with rfl | rfl | rfl
    · rfl
    · exact absurd e ne_RE_KE
    · exact absurd e ne_RD_KE
  have TB_RE := hTB (c_RE, P_RE) (by simp [cs])
  have in_RE : (P_RE, qRefu) ∈ T := by simp [T]
  have one_RE : ∀ y ∈ T, y.1 = P_RE → y.2 = qRefu := by
    intro y hy e
    simp only [T, List.mem_cons, List.not_mem_nil, or_false] at hy
    rcases hy with rfl | rfl | rfl
    · exact absurd e.symm ne_RE_KE
    · rfl
    · exact absurd e ne_RD_RE
  have TB_RD := hTB (c_RD, P_RD) (by simp [cs])
  have in_RD : (P_RD, qRead) ∈ T := by simp [T]
  have one_RD : ∀ y ∈ T, y.1 = P_RD → y.2 = qRead := by
    intro y hy e
    simp only [T, List.mem_cons, List.not_mem_nil, or_false] at hy
    rcases hy with rfl | rfl | rfl
    · exact absurd e.symm ne_RD_KE
    · exact absurd e.symm ne_RD_RE
    · rfl
  have G_is_name := ok_is_name (P := l.prog) (w := w) (mg := mg) (base := base) F_is_name g_L n_isinstance n_len n_str
  have C_is_name : Hb.Cl l.prog w K mg base "is_name" ["value"] [] 1 (spIsName K) := ⟨_, _, [], G_is_name, m_is_name, k0, b_is_name, .nil⟩
  have G_is_lot := ok_is_lot (P := l.prog) (w := w) (mg := mg) (base := base) F_is_lot C_is_name n_all n_isinstance n_len n_tuple n_zip
  have C_is_lot : Hb.Cl l.prog w K mg base "is_lot" ["value"] [] 2 (spIsLot K) := ⟨_, _, [], G_is_lot, m_is_lot, k1, b_is_lot, .nil⟩
  have G_is_tale := ok_is_tale (P := l.prog) (w := w) (mg := mg) (base := base) F_is_tale C_is_lot n_all n_isinstance n_tuple
  have C_is_tale : Hb.Cl l.prog w K mg base "is_tale" ["value"] [] 3 (spIsTale K) := ⟨_, _, [], G_is_tale, m_is_tale, k2, b_is_tale, .nil⟩
  have G_is_integer := ok_isint (P := l.prog) (w := w) (mg := mg) (base := base) F_is_integer n_bool n_int n_isinstance
  have C_is_integer : Hb.Cl l.prog w K mg base "is_integer" ["value"] [] 1 (spIsInt K) := ⟨_, _, [], G_is_integer, m_is_integer, k3, b_is_integer, .nil⟩
  have G_is_number := ok_isnum (P := l.prog) (w := w) (mg := mg) (base := base) F_is_number C_is_integer
  have C_is_number : Hb.Cl l.prog w K mg base "is_number" ["value"] [] 2 (spIsNum K) := ⟨_, _, [], G_is_number, m_is_number, k4, b_is_number, .nil⟩
  have G_is_count := ok_cnt (P := l.prog) (w := w) (mg := mg) (base := base) F_is_count C_is_integer
  have C_is_count : Hb.Cl l.prog w K mg base "is_count" ["value"] [] 2 (spCntD K) := ⟨_, _, [], G_is_count, m_is_count, k5, b_is_count, .nil⟩
  have G_is_sequence := ok_isseq (P := l.prog) (w := w) (mg := mg) (base := base) F_is_sequence n_isinstance n_list n_tuple
  have C_is_sequence : Hb.Cl l.prog w K mg base "is_sequence" ["value"] [] 1 (spSeq K) := ⟨_, _, [], G_is_sequence, m_is_sequence, k6, b_is_sequence, .nil⟩
  have G_are_rooms := ok_arer (P := l.prog) (w := w) (mg := mg) (base := base) F_are_rooms C_is_name C_is_sequence C_is_tale g_M n_all n_isinstance n_len n_set n_tuple
  have C_are_rooms : Hb.Cl l.prog w K mg base "are_rooms" ["value"] [] 4 (spAreR K w) := ⟨_, _, [], G_are_rooms, m_are_rooms, k7, b_are_rooms, .nil⟩
  have G_is_step := ok_step (P := l.prog) (w := w) (mg := mg) (base := base) F_is_step C_is_count C_is_name n_isinstance n_len n_tuple
  have C_is_step : Hb.Cl l.prog w K mg base "is_step" ["many", "value"] [] 3 (spStep K) := ⟨_, _, [], G_is_step, m_is_step, k8, b_is_step, .nil⟩
  have G_is_join := ok_join (P := l.prog) (w := w) (mg := mg) (base := base) F_is_join C_is_step n_all n_isinstance n_len n_tuple
  have C_is_join : Hb.Cl l.prog w K mg base "is_join" ["many", "value"] [] 4 (spJoin K) := ⟨_, _, [], G_is_join, m_is_join, k9, b_is_join, .nil⟩
  have G_event_lot := ok_evl (P := l.prog) (w := w) (mg := mg) (base := base) F_event_lot n_enumerate
  have C_event_lot : Hb.Cl l.prog w K mg base "event_lot" ["tale", "name", "i"] [] 1 (spEvL K) := ⟨_, _, [], G_event_lot, m_event_lot, k10, b_event_lot, .nil⟩
  have G_read_integer := ok_rdint (P := l.prog) (w := w) (mg := mg) (base := base) F_read_integer g_FV n_int n_len
  have C_read_integer : Hb.Cl l.prog w K mg base "read_integer" ["word"] [] 1 (spRdInt) := ⟨_, _, [], G_read_integer, m_read_integer, k11, b_read_integer, .nil⟩
  have G_may_follow := ok_may (P := l.prog) (w := w) (mg := mg) (base := base) F_may_follow 
  have C_may_follow : Hb.Cl l.prog w K mg base "may_follow" ["last", "word"] [] 1 (spMay) := ⟨_, _, [], G_may_follow, m_may_follow, k12, b_may_follow, .nil⟩
  have G_read_room := ok_rdroom (P := l.prog) (w := w) (mg := mg) (base := base) F_read_room C_is_name n_all n_tuple
  have C_read_room : Hb.Cl l.prog w K mg base "read_room" ["text"] [] 2 (spRdRoom K) := ⟨_, _, [], G_read_room, m_read_room, k13, b_read_room, .nil⟩
  have G_read_join := ok_rdjoin (P := l.prog) (w := w) (mg := mg) (base := base) F_read_join C_is_name C_is_number C_read_integer g_FR n_all n_len n_max
  have C_read_join : Hb.Cl l.prog w K mg base "read_join" ["text"] [] 3 (spRdJoin K) := ⟨_, _, [], G_read_join, m_read_join, k14, b_read_join, .nil⟩
  have G__law_deal := ok_deal (P := l.prog) (w := w) (mg := mg) (base := base) F__law_deal n_abs n_int
  have C__law_deal : Hb.Cl l.prog w K mg base "_law_deal" ["script", "base"] [] 1 (spDeal K) := ⟨_, _, [], G__law_deal, m__law_deal, k15, b__law_deal, .nil⟩
  have G__law_draw := ok_draw (P := l.prog) (w := w) (mg := mg) (base := base) F__law_draw n_int
  have C__law_draw : Hb.Cl l.prog w K mg base "_law_draw" ["deal", "bound"] [] 1 (spDraw) := ⟨_, _, [], G__law_draw, m__law_draw, k16, b__law_draw, .nil⟩
  have G__law_pick := ok_pick (P := l.prog) (w := w) (mg := mg) (base := base) F__law_pick C__law_draw n_len
  have C__law_pick : Hb.Cl l.prog w K mg base "_law_pick" ["deal", "some"] [] 2 (spPick K) := ⟨_, _, [], G__law_pick, m__law_pick, k17, b__law_pick, .nil⟩
  have G__law_lots := ok_lots (P := l.prog) (w := w) (mg := mg) (base := base) F__law_lots n_sorted
  have C__law_lots : Hb.Cl l.prog w K mg base "_law_lots" ["some"] [] 1 (spLots K) := ⟨_, _, [], G__law_lots, m__law_lots, k18, b__law_lots, .nil⟩
  have G__law_tale := ok_ltale (P := l.prog) (w := w) (mg := mg) (base := base) F__law_tale C__law_lots C__law_pick n_range n_tuple
  have C__law_tale : Hb.Cl l.prog w K mg base "_law_tale" ["deal", "many"] [] 3 (spTale K) := ⟨_, _, [], G__law_tale, m__law_tale, k19, b__law_tale, .nil⟩
  have G__law_steps := ok_lsteps (P := l.prog) (w := w) (mg := mg) (base := base) F__law_steps n_len n_range
  have C__law_steps : Hb.Cl l.prog w K mg base "_law_steps" ["rooms"] [] 1 (spSteps K) := ⟨_, _, [], G__law_steps, m__law_steps, k20, b__law_steps, .nil⟩
  have G__law_joins := ok_ljoins (P := l.prog) (w := w) (mg := mg) (base := base) F__law_joins C__law_draw C__law_pick C__law_steps n_range
  have C__law_joins : Hb.Cl l.prog w K mg base "_law_joins" ["deal", "rooms", "many"] [] 3 (spJoins K) := ⟨_, _, [], G__law_joins, m__law_joins, k21, b__law_joins, .nil⟩
  have G__law_rooms := ok_lrooms (P := l.prog) (w := w) (mg := mg) (base := base) F__law_rooms C__law_joins C__law_pick C__law_tale n_min n_range
  have C__law_rooms : Hb.Cl l.prog w K mg base "_law_rooms" ["deal", "most"] [] 4 (spRooms K) := ⟨_, _, [], G__law_rooms, m__law_rooms, k22, b__law_rooms, .nil⟩
  have G__law_text := ok_ltext (P := l.prog) (w := w) (mg := mg) (base := base) F__law_text n_str
  have C__law_text : Hb.Cl l.prog w K mg base "_law_text" ["rooms", "gongs", "calls"] [] 1 (spLText K) := ⟨_, _, [], G__law_text, m__law_text, k23, b__law_text, .nil⟩
  have Gi := ok_init (P := l.prog) (w := w) (mg := mg) (base := base) Fm___init__ TC T_r C_are_rooms C_is_join C_is_sequence n_all n_enumerate n_len n_tuple
  obtain ⟨di3, vi3, Bi3⟩ := Fm___init__.binds1 (ps := ["self", "rooms", "gongs", "calls"]) 4 2 (by simp) rfl fun T kV doc pm an cdv ct us its h1 h2 => match us, its, h1, h2 with | [_, _, _, _], [_, _], _, _ => ⟨_, rfl, rfl⟩
  obtain ⟨di2, vi2, Bi2⟩ := Fm___init__.binds1 (ps := ["self", "rooms", "gongs", "calls"]) 3 1 (by simp) rfl fun T kV doc pm an cdv ct us its h1 h2 => match us, its, h1, h2 with | [_, _, _], [_, _], _, _ => ⟨_, rfl, rfl⟩
  obtain ⟨di1, vi1, Bi1⟩ := Fm___init__.binds1 (ps := ["self", "rooms", "gongs", "calls"]) 2 0 (by simp) rfl fun T kV doc pm an cdv ct us its h1 h2 => match us, its, h1, h2 with | [_, _], [_, _], _, _ => ⟨_, rfl, rfl⟩
  have bi3 : L2.Binds K (PySem.W.fnOf "__init__" "Rooms.__init__" (defArgs s_Rooms___init__) (defBody s_Rooms___init__) (defScope s_Rooms___init__) (.ref dT) kVm___init__ dcm___init__ pmm___init__ anm___init__ cdm___init__ ctm___init__) ["self", "rooms", "gongs", "calls"] [] := by cases vi3; exact Bi3
  have bi2 : L2.Binds K (PySem.W.fnOf "__init__" "Rooms.__init__" (defArgs s_Rooms___init__) (defBody s_Rooms___init__) (defScope s_Rooms___init__) (.ref dT) kVm___init__ dcm___init__ pmm___init__ anm___init__ cdm___init__ ctm___init__) ["self", "rooms", "gongs", "calls"] [.ref ec] := by cases vi2 with | cons r t => cases t; cases r; exact Bi2
  have bi1 : L2.Binds K (PySem.W.fnOf "__init__" "Rooms.__init__" (defArgs s_Rooms___init__) (defBody s_Rooms___init__) (defScope s_Rooms___init__) (.ref dT) kVm___init__ dcm___init__ pmm___init__ anm___init__ cdm___init__ ctm___init__) ["self", "rooms", "gongs", "calls"] [.ref eg, .ref ec] := by cases vi1 with | cons r t => cases t with | cons r2 t2 => cases t2; cases r; cases r2; exact Bi1
  have bik : KBn K (PySem.W.fnOf "__init__" "Rooms.__init__" (defArgs s_Rooms___init__) (defBody s_Rooms___init__) (defScope s_Rooms___init__) (.ref dT) kVm___init__ dcm___init__ pmm___init__ anm___init__ cdm___init__ ctm___init__) ["self", "rooms", "gongs", "calls"] 1 ["rooms", "gongs", "calls"] (fun us ws => us ++ ws) (fun vs zs => vs ++ zs) := ⟨fun s us ws X0 h1 h2 => BindsTo.of_looks fun M => by
      match us, h1, ws, h2 with
      | [u], _, [a, b, c], _ =>
        obtain ⟨k, e1, e2⟩ : ∃ k, bindArgs (PySem.W.fnOf "__init__" "Rooms.__init__" (defArgs s_Rooms___init__) (defBody s_Rooms___init__) (defScope s_Rooms___init__) (.ref dT) kVm___init__ dcm___init__ pmm___init__ anm___init__ cdm___init__ ctm___init__) ⟨[u], (["rooms", "gongs", "calls"] : List Str).zip [a, b, c]⟩ = seqItems? (.ref dT) >>= k ∧ k (some #[.ref eg, .ref ec]) = pure ((["self", "rooms", "gongs", "calls"] : List Str).zip ([u] ++ [a, b, c])) := ⟨_, rfl, rfl⟩
        rw [e1]
        exact looks_items (its := #[Value.ref eg, Value.ref ec]) X0 eT eTd (.of_pure e2), fun r1 r2 => r1.append r2⟩
  have M_Rooms : MkR l.prog w K mg base C CR eg ec := { ex := ⟨_, _, fun us ws => us ++ ws, ⟨rmk, am___init__, im___init__, rkp⟩, Gi, bi3, bi2, bi1, bik⟩, mgC := g_Rooms, eG := SE, eC := SF }
  have Gm___eq__ := ok_eqR (P := l.prog) (w := w) (mg := mg) (base := base) Fm___eq__ TC g_Rooms n_isinstance
  have Gm_many_lots := ok_many (P := l.prog) (w := w) (mg := mg) (base := base) Fm_many_lots TC T_n n_len
  have Gm_lot_of := ok_lotof (P := l.prog) (w := w) (mg := mg) (base := base) Fm_lot_of TC T_n C_is_step n_len
  have Gm_step_of := ok_stepof (P := l.prog) (w := w) (mg := mg) (base := base) Fm_step_of TC T_n C_event_lot C_is_count
  have Gm_with_gong := ok_withg (P := l.prog) (w := w) (mg := mg) (base := base) Fm_with_gong TC M_Rooms
  have Gm_with_call := ok_withc (P := l.prog) (w := w) (mg := mg) (base := base) Fm_with_call TC M_Rooms
  have Gm_without_joins := ok_without (P := l.prog) (w := w) (mg := mg) (base := base) Fm_without_joins TC M_Rooms
  have Gm_text := ok_text (P := l.prog) (w := w) (mg := mg) (base := base) Fm_text TC
  have Gm_read := ok_read (P := l.prog) (w := w) (mg := mg) (base := base) Fm_read T_t M_Rooms C_may_follow C_read_join C_read_room n_enumerate n_isinstance n_str
  have X_many_lots : ChX l.prog w K mg base C "many_lots" ["self", "name"] [] 2 (spManyL K C CN) := ⟨_, _, [], ⟨am_many_lots, im_many_lots, km_many_lots⟩, Gm_many_lots, bm_many_lots, .nil⟩
  have X_lot_of : ChX l.prog w K mg base C "lot_of" ["self", "step"] [] 4 (spLotOf K C CN) := ⟨_, _, [], ⟨am_lot_of, im_lot_of, km_lot_of⟩, Gm_lot_of, bm_lot_of, .nil⟩
  have X_step_of : ChX l.prog w K mg base C "step_of" ["self", "name", "bell", "turn"] [] 4 (spStepOf K C CN) := ⟨_, _, [], ⟨am_step_of, im_step_of, km_step_of⟩, Gm_step_of, bm_step_of, .nil⟩
  have X_with_gong : ChX l.prog w K mg base C "with_gong" ["self", "one", "other"] [] 7 (spWithG K C CR) := ⟨_, _, [], ⟨am_with_gong, im_with_gong, km_with_gong⟩, Gm_with_gong, bm_with_gong, .nil⟩
  have X_with_call : ChX l.prog w K mg base C "with_call" ["self", "one", "other"] [] 7 (spWithC K C CR) := ⟨_, _, [], ⟨am_with_call, im_with_call, km_with_call⟩, Gm_with_call, bm_with_call, .nil⟩
  have X_without_joins : ChX l.prog w K mg base C "without_joins" ["self"] [] 7 (spWithout K C CR) := ⟨_, _, [], ⟨am_without_joins, im_without_joins, km_without_joins⟩, Gm_without_joins, bm_without_joins, .nil⟩
  have D_text : Ch l.prog w K mg base C "text" ["self"] [] 1 (spText K C) := ⟨_, _, [], ⟨am_text, im_text, km_text⟩, Gm_text, bm_text, .nil⟩
  have ME : Ch l.prog w K mg base C "__eq__" ["self", "other"] [] 2 (spEqR K C) := ⟨_, _, [], ⟨am___eq__, im___eq__, km___eq__⟩, Gm___eq__, bm___eq__, .nil⟩
  have kb_K_many : KBn K (PySem.W.fnOf "many_lots" "Rooms.many_lots" (defArgs s_Rooms_many_lots) (defBody s_Rooms_many_lots) (defScope s_Rooms_many_lots) .none kVm_many_lots dcm_many_lots pmm_many_lots anm_many_lots cdm_many_lots ctm_many_lots) ["self", "name"] 1 ["name"] (fun us ws => us ++ ws) (fun vs zs => vs ++ zs) := ⟨fun s us ws _ h1 h2 => by
      match us, h1, ws, h2 with
      | [_], _, [_], _ => exact .of_eq rfl, fun r1 r2 => r1.append r2⟩
  have K_many : ChKX l.prog w K mg base C "many_lots" ["self", "name"] ["name"] (fun vs zs => vs ++ zs) 2 (spManyL K C CN) := ⟨_, _, (fun us ws => us ++ ws), ⟨am_many_lots, im_many_lots, km_many_lots⟩, Gm_many_lots, kb_K_many⟩
  have kb_K_lot : KBn K (PySem.W.fnOf "lot_of" "Rooms.lot_of" (defArgs s_Rooms_lot_of) (defBody s_Rooms_lot_of) (defScope s_Rooms_lot_of) .none kVm_lot_of dcm_lot_of pmm_lot_of anm_lot_of cdm_lot_of ctm_lot_of) ["self", "step"] 1 ["step"] (fun us ws => us ++ ws) (fun vs zs => vs ++ zs) := ⟨fun s us ws _ h1 h2 => by
      match us, h1, ws, h2 with
      | [_], _, [_], _ => exact .of_eq rfl, fun r1 r2 => r1.append r2⟩
  have K_lot : ChKX l.prog w K mg base C "lot_of" ["self", "step"] ["step"] (fun vs zs => vs ++ zs) 4 (spLotOf K C CN) := ⟨_, _, (fun us ws => us ++ ws), ⟨am_lot_of, im_lot_of, km_lot_of⟩, Gm_lot_of, kb_K_lot⟩
  have kb_K_stp : KBn K (PySem.W.fnOf "step_of" "Rooms.step_of" (defArgs s_Rooms_step_of) (defBody s_Rooms_step_of) (defScope s_Rooms_step_of) .none kVm_step_of dcm_step_of pmm_step_of anm_step_of cdm_step_of ctm_step_of) ["self", "name", "bell", "turn"] 1 ["turn", "bell", "name"] ro3v ro3 := ⟨fun s us ws _ h1 h2 => by
      match us, h1, ws, h2 with
      | [_], _, [_, _, _], _ => exact .of_eq rfl, ro3_rel⟩
  have K_stp : ChKX l.prog w K mg base C "step_of" ["self", "name", "bell", "turn"] ["turn", "bell", "name"] ro3 4 (spStepOf K C CN) := ⟨_, _, ro3v, ⟨am_step_of, im_step_of, km_step_of⟩, Gm_step_of, kb_K_stp⟩
  have kb_K_wg : KBn K (PySem.W.fnOf "with_gong" "Rooms.with_gong" (defArgs s_Rooms_with_gong) (defBody s_Rooms_with_gong) (defScope s_Rooms_with_gong) .none kVm_with_gong dcm_with_gong pmm_with_gong anm_with_gong cdm_with_gong ctm_with_gong) ["self", "one", "other"] 1 ["one", "other"] (fun us ws => us ++ ws) (fun vs zs => vs ++ zs) := ⟨fun s us ws _ h1 h2 => by
      match us, h1, ws, h2 with
      | [_], _, [_, _], _ => exact .of_eq rfl, fun r1 r2 => r1.append r2⟩
  have K_wg : ChKX l.prog w K mg base C "with_gong" ["self", "one", "other"] ["one", "other"] (fun vs zs => vs ++ zs) 7 (spWithG K C CR) := ⟨_, _, (fun us ws => us ++ ws), ⟨am_with_gong, im_with_gong, km_with_gong⟩, Gm_with_gong, kb_K_wg⟩
  have kb_K_wc : KBn K (PySem.W.fnOf "with_call" "Rooms.with_call" (defArgs s_Rooms_with_call) (defBody s_Rooms_with_call) (defScope s_Rooms_with_call) .none kVm_with_call dcm_with_call pmm_with_call anm_with_call cdm_with_call ctm_with_call) ["self", "one", "other"] 1 ["other", "one"] ro2v ro2 := ⟨fun s us ws _ h1 h2 => by
      match us, h1, ws, h2 with
      | [_], _, [_, _], _ => exact .of_eq rfl, ro2_rel⟩
  have K_wc : ChKX l.prog w K mg base C "with_call" ["self", "one", "other"] ["other", "one"] ro2 7 (spWithC K C CR) := ⟨_, _, ro2v, ⟨am_with_call, im_with_call, km_with_call⟩, Gm_with_call, kb_K_wc⟩
  have kbR : KBn K (PySem.W.fnOf "read" "Rooms.read" (defArgs s_Rooms_read) (defBody s_Rooms_read) (defScope s_Rooms_read) .none kVm_read dcm_read pmm_read anm_read cdm_read ctm_read) ["text"] 0 ["text"] (fun us ws => us ++ ws) (fun vs zs => vs ++ zs) := ⟨fun s us ws _ h1 h2 => by
      match us, h1, ws, h2 with
      | [], _, [_], _ => exact .of_eq rfl, fun r1 r2 => r1.append r2⟩
  have SM : SmRd l.prog w K mg base C CR CT := ⟨(.type "type"), pR, fm_read, _, _, ⟨drd, dga, dat, ⟨_, drc⟩, km_read⟩, Gm_read, bm_read, kbR⟩
  have LC : LawC l.prog w K mg base C CR CT CN B f__law_wrong eg ec := { wr := ⟨_, F__law_wrong, b__law_wrong⟩, mwr := m__law_wrong, W3 := W3, TC := TC, mkR := M_Rooms, rd := SM, many := X_many_lots, manyK := K_many, lot := X_lot_of, lotK := K_lot, stp := X_step_of, stpK := K_stp, wg := X_with_gong, wgK := K_wg, wc := X_with_call, wcK := K_wc, n_len := n_len, n_range := n_range, n_repr := n_repr, n_enumerate := n_enumerate }
  have G_KE := ok_kept (P := l.prog) (w := w) (mg := mg) (base := base) lM_KE cM_KE TB_KE in_KE one_KE LC
  have F_KE := fun_mk (st := s__law_kept) lM_KE cM_KE kM_KE
  have b_KE := F_KE.binds (ps := ["made", "rooms"]) fun _ _ _ _ _ _ us hl => match us, hl with | [_, _], _ => rfl
  have Cg_KE : Gu.Cg l.prog w K mg base CX0 "_law_kept" ["made", "rooms"] [] 10 (spKept K C T) := ⟨_, _, [], G_KE, mM_KE, kM_KE, b_KE, .nil⟩
  have G_RE := ok_refused (P := l.prog) (w := w) (mg := mg) (base := base) lM_RE cM_RE TB_RE in_RE one_RE C__law_steps C__law_pick LC
  have F_RE := fun_mk (st := s__law_refused) lM_RE cM_RE kM_RE
  have b_RE := F_RE.binds (ps := ["deal", "rooms", "gongs", "calls"]) fun _ _ _ _ _ _ us hl => match us, hl with | [_, _, _, _], _ => rfl
  have Cg_RE : Gu.Cg l.prog w K mg base CX0 "_law_refused" ["deal", "rooms", "gongs", "calls"] [] 10 (spRefused K T) := ⟨_, _, [], G_RE, mM_RE, kM_RE, b_RE, .nil⟩
  have G_RD := ok_lread (P := l.prog) (w := w) (mg := mg) (base := base) lM_RD cM_RD TB_RD in_RD one_RD C__law_text C__law_draw g_Rooms C__law_pick LC
  have F_RD := fun_mk (st := s__law_read) lM_RD cM_RD kM_RD
  have b_RD := F_RD.binds (ps := ["deal", "rooms", "gongs", "calls"]) fun _ _ _ _ _ _ us hl => match us, hl with | [_, _, _, _], _ => rfl
  have Cg_RD : Gu.Cg l.prog w K mg base CX0 "_law_read" ["deal", "rooms", "gongs", "calls"] [] 10 (spRefused K T) := ⟨_, _, [], G_RD, mM_RD, kM_RD, b_RD, .nil⟩
  exact ok_law (P := l.prog) (w := w) (mg := mg) (base := base) lLW cLW LC g_Rooms TE_ ME D_text X_without_joins C__law_deal C__law_draw C__law_pick C__law_rooms C__law_text C__law_steps Cg_KE Cg_RE Cg_RD n_list n_tuple
end R0
open PySem PySem.W PyProof.Rows
set_option maxRecDepth 100000 in
set_option maxHeartbeats 0 in
theorem PySem.Challenge.cw_curvebells_k60_rooms_and_their_texts_holds : PySem.Challenge.rw_curvebells_k60_rooms_and_their_texts.Holds := by
  w_on; o_law; k_head; (case hw => w_witness2)
  k_fill
  refine Gt.walk_tabs (l := PySem.Challenge.rw_curvebells_k60_rooms_and_their_texts) (n := 63) (k := 11) (x := "script") rfl (by decide) rfl ⟨rfl, by decide, by decide⟩ (fun w h Y => PySem.W.km_in_of Y) ?F
  case F =>
    intro w mg fa h Y KX G hmg
    refine' R0.all_mk KX G hmg ?aB ?aC_r ?xL_r ?sa_r ?ga_r ?gg_r ?nb_r ?aI_r ?tI_r ?lI_r ?cI_r ?kC_r ?eC_r ?tC_r ?hC_r ?sC_r ?ic_r ?c1_r ?c4_r ?kb_r ?aC_t ?xL_t ?sa_t ?ga_t ?gg_t ?nb_t ?aI_t ?tI_t ?lI_t ?cI_t ?kC_t ?eC_t ?tC_t ?hC_t ?sC_t ?ic_t ?c1_t ?c4_t ?kb_t ?aC_n ?xL_n ?sa_n ?ga_n ?gg_n ?nb_n ?aI_n ?tI_n ?lI_n ?cI_n ?kC_n ?eC_n ?tC_n ?hC_n ?sC_n ?ic_n ?c1_n ?c4_n ?kb_n ?xc2 ?xc3 ?kk_n ?s10 ?s20 ?s21 ?aR ?rpg ?rhd ?rpo ?rsa ?rnR ?rnG ?rnC ?rx1 ?rx4 ?rkC ?rkS ?rsS ?rne ?rmk ?rkp ?drd ?dga ?dat ?drc ?am___init__ ?lm___init__ ?cm___init__ ?km___init__ ?im___init__ ?am___eq__ ?lm___eq__ ?cm___eq__ ?km___eq__ ?im___eq__ ?am_many_lots ?lm_many_lots ?cm_many_lots ?km_many_lots ?im_many_lots ?am_lot_of ?lm_lot_of ?cm_lot_of ?km_lot_of ?im_lot_of ?am_step_of ?lm_step_of ?cm_step_of ?km_step_of ?im_step_of ?am_with_gong ?lm_with_gong ?cm_with_gong ?km_with_gong ?im_with_gong ?am_with_call ?lm_with_call ?cm_with_call ?km_with_call ?im_with_call ?am_without_joins ?lm_without_joins ?cm_without_joins ?km_without_joins ?im_without_joins ?am_text ?lm_text ?cm_text ?km_text ?im_text ?lm_read ?cm_read ?km_read ?eT ?eTd ?eE ?eEd ?eF ?eFd ?a0 ?l0 ?c0 ?k0 ?a1 ?l1 ?c1 ?k1 ?a2 ?l2 ?c2 ?k2 ?a3 ?l3 ?c3 ?k3 ?a4 ?l4 ?c4 ?k4 ?a5 ?l5 ?c5 ?k5 ?a6 ?l6 ?c6 ?k6 ?a7 ?l7 ?c7 ?k7 ?a8 ?l8 ?c8 ?k8 ?a9 ?l9 ?c9 ?k9 ?a10 ?l10 ?c10 ?k10 ?a11 ?l11 ?c11 ?k11 ?a12 ?l12 ?c12 ?k12 ?a13 ?l13 ?c13 ?k13 ?a14 ?l14 ?c14 ?k14 ?a15 ?l15 ?c15 ?k15 ?a16 ?l16 ?c16 ?k16 ?a17 ?l17 ?c17 ?k17 ?a18 ?l18 ?c18 ?k18 ?a19 ?l19 ?c19 ?k19 ?a20 ?l20 ?c20 ?k20 ?a21 ?l21 ?c21 ?k21 ?a22 ?l22 ?c22 ?k22 ?a23 ?l23 ?c23 ?k23 ?a24 ?l24 ?c24 ?k24 ?aLW ?lLW ?cLW ?aM_KE ?lM_KE ?cM_KE ?kM_KE ?lC_KE ?vC_KE ?tT_KE ?nP_KE ?hC_KE ?aM_RE ?lM_RE ?cM_RE ?kM_RE ?lC_RE ?vC_RE ?tT_RE ?nP_RE ?hC_RE ?aM_RD ?lM_RD ?cM_RD ?kM_RD ?lC_RD ?vC_RD ?tT_RD ?nP_RD ?hC_RD ?ne_RE_KE ?ne_RD_KE ?ne_RD_RE ?z_KeyError ?z_abs ?z_all ?z_bool ?z_enumerate ?z_int ?z_isinstance ?z_len ?z_list ?z_max ?z_min ?z_range ?z_repr ?z_set ?z_sorted ?z_str ?z_tuple ?z_zip ?gL ?gM ?gV ?gR
    (case aB => k_is)
    (case aC_r => k_is)
    (case xL_r => k_is)
    (case sa_r => k_is)
    (case ga_r => k_is)
    (case gg_r => k_is)
    (case nb_r => k_is)
    (case aI_r => k_is)
    (case tI_r => k_is)
    (case lI_r => k_is)
    (case cI_r => k_is)
    (case kC_r => k_is)
    (case eC_r => k_is)
    (case tC_r => k_is)
    (case hC_r => k_is)
    (case sC_r => first | rfl | k_is)
    (case ic_r => first | rfl | k_is)
    (case c1_r => k_is)
    (case c4_r => k_is)
    (case kb_r => first | rfl | k_is)
    (case aC_t => k_is)
    (case xL_t => k_is)
    (case sa_t => k_is)
    (case ga_t => k_is)
    (case gg_t => k_is)
    (case nb_t => k_is)
    (case aI_t => k_is)
    (case tI_t => k_is)
    (case lI_t => k_is)
    (case cI_t => k_is)
    (case kC_t => k_is)
    (case eC_t => k_is)
    (case tC_t => k_is)
    (case hC_t => k_is)
    (case sC_t => first | rfl | k_is)
    (case ic_t => first | rfl | k_is)
    (case c1_t => k_is)
    (case c4_t => k_is)
    (case kb_t => first | rfl | k_is)
    (case aC_n => k_is)
    (case xL_n => k_is)
    (case sa_n => k_is)
    (case ga_n => k_is)
    (case gg_n => k_is)
    (case nb_n => k_is)
    (case aI_n => k_is)
    (case tI_n => k_is)
    (case lI_n => k_is)
    (case cI_n => k_is)
    (case kC_n => k_is)
    (case eC_n => k_is)
    (case tC_n => k_is)
    (case hC_n => k_is)
    (case sC_n => first | rfl | k_is)
    (case ic_n => first | rfl | k_is)
    (case c1_n => k_is)
    (case c4_n => k_is)
    (case kb_n => first | rfl | k_is)
    (case xc2 => k_is)
    (case xc3 => k_is)
    (case kk_n => first | rfl | k_is)
    (case s10 => k_is)
    (case s20 => k_is)
    (case s21 => k_is)
    (case aR => first | k_is | exact ⟨rfl, rfl⟩ | rfl | kernel_rfl)
    (case rpg => first | k_is | exact ⟨rfl, rfl⟩ | rfl | kernel_rfl)
    (case rhd => first | k_is | exact ⟨rfl, rfl⟩ | rfl | kernel_rfl)
    (case rpo => first | k_is | exact ⟨rfl, rfl⟩ | rfl | kernel_rfl)
    (case rsa => first | k_is | exact ⟨rfl, rfl⟩ | rfl | kernel_rfl)
    (case rnR => first | k_is | exact ⟨rfl, rfl⟩ | rfl | kernel_rfl)
    (case rnG => first | k_is | exact ⟨rfl, rfl⟩ | rfl | kernel_rfl)
    (case rnC => first | k_is | exact ⟨rfl, rfl⟩ | rfl | kernel_rfl)
    (case rx1 => first | k_is | exact ⟨rfl, rfl⟩ | rfl | kernel_rfl)
    (case rx4 => first | k_is | exact ⟨rfl, rfl⟩ | rfl | kernel_rfl)
    (case rkC => first | k_is | exact ⟨rfl, rfl⟩ | rfl | kernel_rfl)
    (case rkS => first | k_is | exact ⟨rfl, rfl⟩ | rfl | kernel_rfl)
    (case rsS => first | k_is | exact ⟨rfl, rfl⟩ | rfl | kernel_rfl)
    (case rne => first | k_is | exact ⟨rfl, rfl⟩ | rfl | kernel_rfl)
    (case rmk => first | k_is | exact ⟨rfl, rfl⟩ | rfl | kernel_rfl)
    (case rkp => first | k_is | exact ⟨rfl, rfl⟩ | rfl | kernel_rfl)
    (case drd => first | k_is | exact ⟨rfl, rfl⟩ | rfl | kernel_rfl)
    (case dga => first | k_is | exact ⟨rfl, rfl⟩ | rfl | kernel_rfl)
    (case dat => first | k_is | exact ⟨rfl, rfl⟩ | rfl | kernel_rfl)
    (case drc => first | k_is | exact ⟨rfl, rfl⟩ | rfl | kernel_rfl)
    (case am___init__ => k_is)
    (case lm___init__ => k_is)
    (case cm___init__ => k_is)
    (case km___init__ => k_is)
    (case im___init__ => k_is)
    (case am___eq__ => k_is)
    (case lm___eq__ => k_is)
    (case cm___eq__ => k_is)
    (case km___eq__ => k_is)
    (case im___eq__ => k_is)
    (case am_many_lots => k_is)
    (case lm_many_lots => k_is)
    (case cm_many_lots => k_is)
    (case km_many_lots => k_is)
    (case im_many_lots => k_is)
    (case am_lot_of => k_is)
    (case lm_lot_of => k_is)
    (case cm_lot_of => k_is)
    (case km_lot_of => k_is)
    (case im_lot_of => k_is)
    (case am_step_of => k_is)
    (case lm_step_of => k_is)
    (case cm_step_of => k_is)
    (case km_step_of => k_is)
    (case im_step_of => k_is)
    (case am_with_gong => k_is)
    (case lm_with_gong => k_is)
    (case cm_with_gong => k_is)
    (case km_with_gong => k_is)
    (case im_with_gong => k_is)
    (case am_with_call => k_is)
    (case lm_with_call => k_is)
    (case cm_with_call => k_is)
    (case km_with_call => k_is)
    (case im_with_call => k_is)
    (case am_without_joins => k_is)
    (case lm_without_joins => k_is)
    (case cm_without_joins => k_is)
    (case km_without_joins => k_is)
    (case im_without_joins => k_is)
    (case am_text => k_is)
    (case lm_text => k_is)
    (case cm_text => k_is)
    (case km_text => k_is)
    (case im_text => k_is)
    (case lm_read => k_is)
    (case cm_read => k_is)
    (case km_read => k_is)
    (case eT => k_is)
    (case eTd => first | rfl | exact ⟨rfl, rfl⟩)
    (case eE => k_is)
    (case eEd => first | rfl | exact ⟨rfl, rfl⟩)
    (case eF => k_is)
    (case eFd => first | rfl | exact ⟨rfl, rfl⟩)
    (case a0 => k_is)
    (case l0 => k_is)
    (case c0 => k_is)
    (case k0 => k_is)
    (case a1 => k_is)
    (case l1 => k_is)
    (case c1 => k_is)
    (case k1 => k_is)
    (case a2 => k_is)
    (case l2 => k_is)
    (case c2 => k_is)
    (case k2 => k_is)
    (case a3 => k_is)
    (case l3 => k_is)
    (case c3 => k_is)
    (case k3 => k_is)
    (case a4 => k_is)
    (case l4 => k_is)
    (case c4 => k_is)
    (case k4 => k_is)
    (case a5 => k_is)
    (case l5 => k_is)
    (case c5 => k_is)
    (case k5 => k_is)
    (case a6 => k_is)
    (case l6 => k_is)
    (case c6 => k_is)
    (case k6 => k_is)
    (case a7 => k_is)
    (case l7 => k_is)
    (case c7 => k_is)
    (case k7 => k_is)
    (case a8 => k_is)
    (case l8 => k_is)
    (case c8 => k_is)
    (case k8 => k_is)
    (case a9 => k_is)
    (case l9 => k_is)
    (case c9 => k_is)
    (case k9 => k_is)
    (case a10 => k_is)
    (case l10 => k_is)
    (case c10 => k_is)
    (case k10 => k_is)
    (case a11 => k_is)
    (case l11 => k_is)
    (case c11 => k_is)
    (case k11 => k_is)
    (case a12 => k_is)
    (case l12 => k_is)
    (case c12 => k_is)
    (case k12 => k_is)
    (case a13 => k_is)
    (case l13 => k_is)
    (case c13 => k_is)
    (case k13 => k_is)
    (case a14 => k_is)
    (case l14 => k_is)
    (case c14 => k_is)
    (case k14 => k_is)
    (case a15 => k_is)
    (case l15 => k_is)
    (case c15 => k_is)
    (case k15 => k_is)
    (case a16 => k_is)
    (case l16 => k_is)
    (case c16 => k_is)
    (case k16 => k_is)
    (case a17 => k_is)
    (case l17 => k_is)
    (case c17 => k_is)
    (case k17 => k_is)
    (case a18 => k_is)
    (case l18 => k_is)
    (case c18 => k_is)
    (case k18 => k_is)
    (case a19 => k_is)
    (case l19 => k_is)
    (case c19 => k_is)
    (case k19 => k_is)
    (case a20 => k_is)
    (case l20 => k_is)
    (case c20 => k_is)
    (case k20 => k_is)
    (case a21 => k_is)
    (case l21 => k_is)
    (case c21 => k_is)
    (case k21 => k_is)
    (case a22 => k_is)
    (case l22 => k_is)
    (case c22 => k_is)
    (case k22 => k_is)
    (case a23 => k_is)
    (case l23 => k_is)
    (case c23 => k_is)
    (case k23 => k_is)
    (case a24 => k_is)
    (case l24 => k_is)
    (case c24 => k_is)
    (case k24 => k_is)
    (case aLW => k_is)
    (case lLW => k_is)
    (case cLW => k_is)
    (case aM_KE => k_is)
    (case lM_KE => k_is)
    (case cM_KE => k_is)
    (case kM_KE => k_is)
    (case lC_KE => k_is)
    (case vC_KE => rfl)
    (case tT_KE => exact PySem.W.km_tabs_of Y _ (by first | k_mem | simp))
    (case nP_KE => first | rfl | kernel_rfl)
    (case hC_KE => first | rfl | kernel_rfl)
    (case aM_RE => k_is)
    (case lM_RE => k_is)
    (case cM_RE => k_is)
    (case kM_RE => k_is)
    (case lC_RE => k_is)
    (case vC_RE => rfl)
    (case tT_RE => exact PySem.W.km_tabs_of Y _ (by first | k_mem | simp))
    (case nP_RE => first | rfl | kernel_rfl)
    (case hC_RE => first | rfl | kernel_rfl)
    (case aM_RD => k_is)
    (case lM_RD => k_is)
    (case cM_RD => k_is)
    (case kM_RD => k_is)
    (case lC_RD => k_is)
    (case vC_RD => rfl)
    (case tT_RD => exact PySem.W.km_tabs_of Y _ (by first | k_mem | simp))
    (case nP_RD => first | rfl | kernel_rfl)
    (case hC_RD => first | rfl | kernel_rfl)
    (case ne_RE_KE => first | decide | (intro z; cases z))
    (case ne_RD_KE => first | decide | (intro z; cases z))
    (case ne_RD_RE => first | decide | (intro z; cases z))
    (case z_KeyError => k_is)
    (case z_abs => k_is)
    (case z_all => k_is)
    (case z_bool => k_is)
    (case z_enumerate => k_is)
    (case z_int => k_is)
    (case z_isinstance => k_is)
    (case z_len => k_is)
    (case z_list => k_is)
    (case z_max => k_is)
    (case z_min => k_is)
    (case z_range => k_is)
    (case z_repr => k_is)
    (case z_set => k_is)
    (case z_sorted => k_is)
    (case z_str => k_is)
    (case z_tuple => k_is)
    (case z_zip => k_is)
    (case gL => k_is)
    (case gM => k_is)
    (case gV => k_is)
    (case gR => k_is)
