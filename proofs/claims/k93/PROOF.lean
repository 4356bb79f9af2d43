import PyProof.Rows.All
import Wide.All
import OpenK.AllK
import Wide.FinOn
import HandS.CallSlots
import HandS.Codes
import HandS.Comp
import HandS.Conv
import HandS.Deep
import HandS.Defaults
import HandS.Dict
import HandS.DictComp
import HandS.EndOwn
import HandS.Evl
import HandS.ExcField
import HandS.ExcIs
import HandS.ExcOwn
import HandS.ForExc
import HandS.ForMost
import HandS.Gcd
import HandS.IsInst
import HandS.Lambda
import HandS.List
import HandS.MakeKwOnly
import HandS.More
import HandS.NestedK
import HandS.OwnEq
import HandS.Set
import HandS.SetFor
import HandS.SetKeys
import HandS.SetTxt0
import HandS.Sort
import HandS.SortKw
import HandS.Star
import HandS.StrMore
import HandS.Strs
import HandS.Style
import HandS.TryMany
import HandS.TupAny
import HandS.Wide
import HandS.WordsExc
import HandS.Zip
import KE.DatumOrd
import KE.GoesEnum
import KE.GoesMore
import KE.KDictDisplayH
import KE.KDictZip
import KE.KExcInit
import KE.KExcIs
import KE.LtSeq
import KE.SortData
import KE.SortKeyed
import PyProof.CallFns
import PyProof.DictMoreH
import PyProof.ReprLen
import PyProof.ReprReads
import PyProof.ReprRoads
import PyProof.Rows.SortShellAny
import PySem.Challenge.RW_curvebells_k93_one_tone_or_two
set_option Elab.async false
set_option linter.all false
set_option maxRecDepth 100000
set_option maxHeartbeats 16000000
/-! sets of texts, made of a list or tuple; sorted of them -/
namespace St
open PySem PySem.Spec PyProof.Rows L2 PySem.Froz
section
variable {P : Program} {w : World} {A : Around} {E : Value → Shared → Prop} {s : Shared}
/-- the order of a set's walk is known to be some order -/
def Led (w : World) (t : SetTable) : Prop := w.params.followText "set-order" = true ∨ t.led = true
/-- the set of the texts l stands at a -/
def TS (P : Program) (w : World) (h : Heap) (a : Addr) (l : List Str) : Prop := ∃ D, h.get? a = some (sObj "set" D) ∧ TxOk P w D l ∧ Ris D.2.2.place.toList ∧ Led w D.2.2 ∧ l.Nodup
theorem TS.at {h h' : Heap} {a : Addr} {l : List Str} (R : TS P w h a l) (k : ∀ o, h.get? a = some o → h'.get? a = some o) : TS P w h' a l := let ⟨D, e, r⟩ := R; ⟨D, k _ e, r⟩
theorem tail_ris {es : Array (Int × Value)} {t : SetTable} {ep : Nat} {wd : Bool} (r : Ris t.place.toList) : Ris (tailTx ep es t wd).2.2.place.toList := by
  unfold tailTx
  by_cases c : (!wd && t.tooFull) = true
  · rw [if_pos c]; exact relayAll_ris _ _ _
  · rw [if_neg c]; exact r
theorem tail_led {es : Array (Int × Value)} {t : SetTable} {ep : Nat} {wd : Bool} (r : t.led = true) : (tailTx ep es t wd).2.2.led = true := by
  unfold tailTx
  by_cases c : (!wd && t.tooFull) = true
  · rw [if_pos c]; exact (relayAll_led _ _ _).trans r
  · rw [if_neg c]; exact r
theorem addTx_ris {D : SD} {n : Int} {v : Value} (r : Ris D.2.2.place.toList) : Ris (addTx n v D).2.2.place.toList := by
  have r1 := layNew_ris D.2.2 D.1 n v r
  unfold addTx
  refine tail_ris ?_
  by_cases c : (layNew D.2.2 D.1 n v).2.1.plain = true
  · rw [if_pos c]; exact r1
  · rw [if_neg c]; exact r1
theorem addTx_led {D : SD} {n : Int} {v : Value} (r : Led w D.2.2) : Led w (addTx n v D).2.2 := by
  rcases r with r | r
  · exact .inl r
  · have l1 : (layNew D.2.2 D.1 n v).2.1.led = true := (layNew_led _ _ _ _).trans r
    refine .inr ?_
    unfold addTx
    refine tail_led ?_
    by_cases c : (layNew D.2.2 D.1 n v).2.1.plain = true
    · rw [if_pos c]; exact l1
    · rw [if_neg c]; exact l1
/-- add of a text that is in already -/
theorem had_x {a : Addr} {D : SD} {l : List Str} {k : Str} {u : Tok} {Q : Bool → Shared → Prop} (ho : s.heap.get? a = some (sObj "set" D)) (F : TxOk P w D l) (hk : k ∈ l) (hb : l.length < scanBound)
    (q : Q false s) : wpAny (model P w) A (setAddHashed a (.str k u) (hashStr w k)) Q E s := by
  obtain ⟨es, ep, t⟩ := D
  have small : es.size < scanBound := by rw [show es.size = l.length from F.sz]; exact hb
  obtain ⟨e, he, ie⟩ := (F.mem k).mp hk
  unfold setAddHashed setAddHashedIn
  refine wpAny_holding (wpAny_bind (wpAny_setState_of ho (rfl : (sObj "set" (es, ep, t)).data = .set es ep t) F.fit ?_)); dsimp only
  rw [byScan_of rfl small F.el, if_pos rfl]; unfold setAddByScan
  refine wpAny_bind (wpAny_bind (wpAny_rule (wpAny_bind (wpAny_setScan_of (knd := strKind P w) (is_str k u) ho rfl F.fit F.el ?_))))
  cases hr : es.toList.findIdx? (fun e => (strKind P w).is k e.2) with
  | some j => exact wpAny_pure (wpAny_pure q)
  | none => exact absurd ie (by rw [List.findIdx?_eq_none_iff.mp hr e he]; decide)
theorem ts_add {a : Addr} {l : List Str} {k : Str} {u : Tok} {Q : Bool → Shared → Prop} (R : TS P w s.heap a l) (hb : l.length + 1 < scanBound)
    (q : ∀ h' b, Heap.SameBut a s.heap h' → TS P w h' a (if k ∈ l then l else k :: l) → Q b { s with heap := h' }) : wpAny (model P w) A (setAddHashed a (.str k u) (hashStr w k)) Q E s := by
  obtain ⟨D, e, F, r, ld, nd⟩ := R
  by_cases hk : k ∈ l
  · exact had_x e F hk (by omega) (q s.heap false (Heap.SameBut.refl a s.heap) ⟨D, e, by rw [if_pos hk]; exact F, r, ld, by rw [if_pos hk]; exact nd⟩)
  · refine add_x e F hk hb (q _ true (Heap.SameBut.update s.heap a _) ⟨_, get_upd _ e rfl, ?_, addTx_ris r, addTx_led ld, ?_⟩)
    · rw [if_neg hk]; exact add_ok u F
    · rw [if_neg hk]; exact List.nodup_cons.mpr ⟨hk, nd⟩
/-- S.update(it), texts -/
theorem upd_texts {I : Addr} {fp wr : List Addr} {G : Array GenState → Array GenState → Prop} {n : Nat} {Pv : Nat → Value → Prop} {St : Nat → Shared → Prop} {R : Result → Shared → Prop}
    (W : WalksS P w A.in1 I fp wr G n Pv St) {S : Addr} (hS : S ∉ fp) {xs : List Str} (hn : n = xs.length) (hb : xs.length + 1 < scanBound) (hv : ∀ i v, Pv i v → ∃ x t, xs[i]? = some x ∧ v = .str x t) :
    ∀ (k i : Nat) (s : Shared) (l : List Str), n - i = k → i ≤ n → St i s → TS P w s.heap S l → l.length ≤ i → (∀ x, x ∈ l ↔ x ∈ xs.take i) →
      (∀ s' m, Moved (S :: wr) G s s' → TS P w s'.heap S m → m.length ≤ n → (∀ x, x ∈ m ↔ x ∈ xs) → R (.ok (.ret .none)) s') →
      codeAny (model P w) A (.builtin "set.update.loop" ⟨[.ref S, .ref I], []⟩) R s := by
  have sw : S ∉ wr := fun z => hS (W.sub S z)
  have wide : ∀ {s s' : Shared}, Moved wr G s s' → Moved (S :: wr) G s s' := fun m => m.mono fun b z => List.mem_cons_of_mem S z
  intro k
  induction k with
  | zero =>
    intro i s l e1 e2 st hT hl hm q
    obtain rfl : i = n := by omega
    refine codeAny_builtin F.entry_set_update_loop ?_
    rw [Around.under_plainId F.plain_set_update_loop _]
    refine wpAny_bind (m := pyNext (.ref I)) (W.done s _ _ st fun s' mv => ?_)
    refine wpAny_pure (q s' l (wide mv) (hT.at fun o e => mv.heap S o sw e) hl fun x => ?_)
    rw [hm x, List.take_of_length_le (by omega)]
  | succ k ih =>
    intro i s l e1 e2 st hT hl hm q
    have hi : i < n := by omega
    refine codeAny_builtin F.entry_set_update_loop ?_
    rw [Around.under_plainId F.plain_set_update_loop _]
    refine wpAny_bind (m := pyNext (.ref I)) (W.item i s _ _ hi st fun v s1 pv st1 mv => ?_)
    obtain ⟨x, t, ex, rfl⟩ := hv i v pv
    refine wpAny_bind (m := holding [Value.str x t] (setAdd S (.str x t))) (wpAny_holding ?_)
    unfold setAdd
    refine wpAny_holding (wpAny_bind ((strKind P w).pyHash (is_str (P := P) (w := w) x t) ?_))
    refine ts_add (s := { s1 with toks := s1.toks + 1 }) (hT.at fun o e => mv.heap S o sw e) (by omega) fun h' _ sb hT' => ?_
    have back : ∀ b o, b ≠ S → s1.heap.get? b = some o → h'.get? b = some o := fun b o ne e => (sb.2 b ne).trans e
    refine wpAny_pure ⟨plainId_quiet F.plain_set_update_loop _, ih (i + 1) _ _ (by omega) hi (W.frame _ s1 _ _ st1 (Nat.le_succ _) fun b z o e => back b o (fun y => hS (y ▸ z)) e) hT' ?_ (fun y => ?_) fun s2 m mv2 hT2 hl2 hm2 => ?_⟩
    · split
      · omega
      · rw [List.length_cons]; omega
    · rw [List.take_add_one, ex, List.mem_append, ← hm y]
      show _ ↔ _ ∨ y ∈ [x]
      rw [List.mem_singleton]
      split
      · exact ⟨.inl, fun z => z.elim id fun z => z ▸ (by assumption)⟩
      · rw [List.mem_cons]; exact Or.comm
    · exact q s2 m (Moved.trans W.gtrans ((wide mv).then_heap (Nat.le_succ _) fun b o z e => back b o (fun y => z (y ▸ List.mem_cons_self)) e) mv2) hT2 hl2 hm2
end
end St

namespace St
open PySem PySem.Spec PyProof.Rows L2 PySem.Froz
/-- a new set -/
abbrev S0 (w : World) : Obj := { cls := .type "set", dict := none, data := .set #[] 0 (.fresh 0 0 (!w.params.followText "set-order")) }
section
variable {P : Program} {w : World} {A : Around} {E : Value → Shared → Prop} {s : Shared}
set_option maxHeartbeats 8000000 in
/-- set(x), x a list or a tuple at l: its loop told by `loop` -/
theorem set_call {l : Addr} {T : String} {ol itO : Obj} {Res : Heap → Prop} {Q : Value → Shared → Prop} (hh : A.handled = none) (hol : s.heap.get? l = some ol) (hcl : ol.cls = .type T)
    (n1 : isSubtype (.type T) (.type "set") = pure false) (n2 : isSubtype (.type T) (.type "frozenset") = pure false) (n3 : (Value.type T == Value.type "dict") = false)
    (itr : ∀ {A : Around} {E : Value → Shared → Prop} {s1 : Shared} {Q : Value → Shared → Prop}, s1.heap.get? l = some ol → Q (.ref s1.heap.objs.size) { s1 with heap := s1.heap.push itO } → wpAny (model P w) A (pyIter (.ref l)) Q E s1)
    (loop : ∀ (A' : Around) (R : Result → Shared → Prop) (tk : Tok), A'.handled = none →
      (∀ h' tk', Res h' → (∀ b o, s.heap.get? b = some o → h'.get? b = some o) → R (.ok (.ret .none)) { s with heap := h', toks := tk' }) →
      codeAny (model P w) A' (.builtin "set.update.loop" ⟨[.ref s.heap.objs.size, .ref (s.heap.push (S0 w)).objs.size], []⟩) R { s with heap := (s.heap.push (S0 w)).push itO, toks := tk })
    (q : ∀ h' tk, Res h' → (∀ b o, s.heap.get? b = some o → h'.get? b = some o) → Q (.ref s.heap.objs.size) { s with heap := h', toks := tk }) :
    wpAny (model P w) A (call (.type "set") [.ref l]) Q E s := by
  obtain ⟨_, _, mro⟩ := F.called_set.mro; have made := F.called_set.made; have sub := F.called_set.sub; have k1 := F.called_set.notType; have k2 := F.called_set.canCreate; have ct := F.typeCall_set_1 (.ref l)
  refine wpAny_call (codeAny_of_tree ?_); show wpAny _ _ (callAny (.type "set") _) _ _ _
  refine wpAny_pure ⟨Code.quiet_builtin _ (by decide +kernel), codeAny_builtin F.entry_type_call ?_⟩; rw [Around.under_plain (weight_type_call_type "set" [.ref l] []) rfl]
  repeat any_goals first | assumption | wp_step
  refine codeAny_mono (code_set_led1 (.ref l) (E := E) (Q₁ := fun o s1 => o = .ref s.heap.objs.size ∧ s1 = { s with heap := s.heap.push (S0 w) }) ⟨rfl, rfl⟩) fun r s1 hr => ?_
  rcases r with e | (_ | _ | _ | o)
  · exact hr
  · exact hr.elim
  · exact hr.elim
  · exact hr.elim
  · obtain ⟨rfl, rfl⟩ := hr
    have hS : (s.heap.push (S0 w)).get? s.heap.objs.size = some (S0 w) := Heap.get?_push_size _ rfl
    have hT : Shared.TypeIs { s with heap := s.heap.push (S0 w) } (.ref s.heap.objs.size) "set" := ⟨_, hS, rfl⟩
    have il := F.called_set.init.lookup; have ib := F.called_set.init.bind (.ref s.heap.objs.size)
    repeat any_goals first | assumption | wp_step
    refine codeAny_mono (codeAny_call_builtin (R := wants (fun r s2 => r = .none ∧ ∃ h' tk, s2 = { s with heap := h', toks := tk } ∧ Res h' ∧ (∀ b o, s.heap.get? b = some o → h'.get? b = some o)) E) F.called_set.init.plain F.entry_set_init (check_set_init_1 hT ?_)) fun r2 s2 h2 => ?_
    · have e1 : (s.heap.push (S0 w)).get? l = some ol := Heap.get?_push_of_some _ hol
      have hTl : Shared.TypeIs { s with heap := s.heap.push (S0 w) } (.ref l) T := ⟨ol, e1, hcl⟩
      unfold Builtin.«set.__init__» noKeywords Builtin.Frozenset.updateFrom
      generalize hI : pyIter = PI
      obtain ⟨c, d, da, sl⟩ := ol
      dsimp only at hcl
      subst hcl
      wp_walk
      subst hI
      refine itr e1 (wpAny_bind (wpAny_runValue (loop _ _ _ (by simp [hh]) fun h' tk r k => ?_)))
      exact wpAny_pure (wpAny_pure ⟨rfl, h', tk, rfl, r, k⟩)
    · rcases r2 with e | (_ | _ | _ | o)
      · exact h2
      · exact h2.elim
      · exact h2.elim
      · exact h2.elim
      · obtain ⟨rfl, h', tk, rfl, r, k⟩ := h2
        repeat any_goals first | assumption | wp_step
        exact q _ _ r k
end
end St

namespace St
open PySem PySem.Spec PyProof.Rows L2 PySem.Froz
section
variable {P : Program} {w : World} {A : Around} {E : Value → Shared → Prop} {s : Shared}
theorem lkp {h : Heap} {o o' : Obj} {b : Addr} {u : Obj} (e : h.get? b = some u) : ((h.push o).push o').get? b = some u := Heap.get?_push_of_some _ (Heap.get?_push_of_some _ e)
/-- what the loop of the update leaves -/
theorem moved_end {s s' : Shared} {h1 : Heap} {tk : Tok} {S I : Addr} (hS : S = s.heap.objs.size) (hI : s.heap.objs.size ≤ I) (old : ∀ b o, s.heap.get? b = some o → h1.get? b = some o)
    (m : Moved [S, I] (fun a b => b = a) { s with heap := h1, toks := tk } s') : s' = { s with heap := s'.heap, toks := s'.toks } ∧ ∀ b o, s.heap.get? b = some o → s'.heap.get? b = some o := by
  refine ⟨?_, fun b o e => m.heap b o (fun z => ?_) (old b o e)⟩
  · have g := m.gens
    have d := m.drawn
    have os := m.os
    cases s'
    dsimp only at g d os ⊢
    rw [g, d, os]
  · have lt := Heap.lt_size e
    rcases List.mem_cons.mp z with z | z
    · exact absurd lt (by rw [z, hS]; exact Nat.lt_irrefl _)
    · exact absurd lt (by rw [List.mem_singleton.mp z]; exact Nat.not_lt_of_le hI)
theorem places {l : Addr} (lt : l < s.heap.objs.size) : l ≠ (s.heap.push (S0 w)).objs.size ∧ s.heap.objs.size ∉ [(s.heap.push (S0 w)).objs.size, l] ∧ s.heap.objs.size ≤ (s.heap.push (S0 w)).objs.size := by
  rw [Heap.size_push]
  refine ⟨Nat.ne_of_lt (Nat.lt_succ_of_lt lt), fun z => ?_, Nat.le_succ _⟩
  rcases List.mem_cons.mp z with z | z
  · exact absurd z (Nat.ne_of_lt (Nat.lt_succ_self _))
  · exact absurd (List.mem_singleton.mp z) (Nat.ne_of_gt lt)
/-- set(x), texts, x a list or a tuple -/
theorem set_texts {l : Addr} {its : Array Value} {xs : List Str} {Q : Value → Shared → Prop} (hh : A.handled = none) (hl : s.heap.IsList l its ∨ s.heap.IsTuple l its) (hx : StrsAre its.toList xs) (hb : xs.length + 1 < scanBound)
    (q : ∀ h' tk m, TS P w h' s.heap.objs.size m → m.length ≤ xs.length → (∀ x, x ∈ m ↔ x ∈ xs) → (∀ b o, s.heap.get? b = some o → h'.get? b = some o) → Q (.ref s.heap.objs.size) { s with heap := h', toks := tk }) :
    wpAny (model P w) A (call (.type "set") [.ref l]) Q E s := by
  have len : its.size = xs.length := by rw [← Array.length_toList]; exact hx.len_eq
  have val : ∀ i v, its[i]? = some v → ∃ x t, xs[i]? = some x ∧ v = Value.str x t := fun i v e => by
    rw [← Array.getElem?_toList] at e
    have hi : i < xs.length := by rw [← hx.len_eq]; exact (List.getElem?_eq_some_iff.mp e).1
    obtain ⟨t, et⟩ := hx.at (List.getElem?_eq_getElem hi)
    exact ⟨xs[i], t, List.getElem?_eq_getElem hi, Option.some.inj (e.symm.trans et)⟩
  have fin : ∀ (I : Addr), I = (s.heap.push (S0 w)).objs.size → I = s.heap.objs.size + 1 := fun I e => e.trans (Heap.size_push ..)
  have start : ∀ o', TS P w ((s.heap.push (S0 w)).push o') s.heap.objs.size [] := fun o' =>
    ⟨(#[], 0, .fresh 0 0 (!w.params.followText "set-order")), Heap.get?_push_of_some _ (Heap.get?_push_size _ rfl), TxOk.nil rfl, List.Pairwise.nil, by
      show _ ∨ (!w.params.followText "set-order") = true
      cases w.params.followText "set-order" <;> simp, List.nodup_nil⟩
  rcases hl with ⟨ol, e, c, n, d⟩ | ⟨ol, e, c, n, d⟩
  · refine set_call (Res := fun h' => ∃ m, TS P w h' s.heap.objs.size m ∧ m.length ≤ xs.length ∧ ∀ x, x ∈ m ↔ x ∈ xs) hh e c F.sub_list_set F.sub_list_frozenset (by decide) (fun {_ _ s1 _} e1 h => wpAny_pyIter_list (s := s1) ⟨ol, e1, c, n, d⟩ h) (fun A' R tk ha hR => ?_) fun h' tk ⟨m, r1, r2, r3⟩ k => q h' tk m r1 r2 r3 k
    have lt := Heap.lt_size e
    obtain ⟨ne, nin, up⟩ := places (w := w) lt
    refine upd_texts (s := { s with heap := (s.heap.push (S0 w)).push _, toks := tk }) ((Walks.list (A := A'.in1) (by simpa using ha) _ l ne its).toS) (S := s.heap.objs.size) nin len hb val (its.size - 0) 0 [] (by omega) (Nat.zero_le _)
      ⟨⟨_, Heap.get?_push_size _ rfl, rfl, rfl⟩, ⟨ol, lkp e, c, n, d⟩⟩ (start _) (Nat.zero_le _) (fun x => by simp) fun s' m mv r1 r2 r3 => ?_
    obtain ⟨es, k⟩ := moved_end rfl up (fun b o z => lkp z) mv
    rw [es]
    exact hR _ _ ⟨m, r1, by omega, r3⟩ k
  · refine set_call (Res := fun h' => ∃ m, TS P w h' s.heap.objs.size m ∧ m.length ≤ xs.length ∧ ∀ x, x ∈ m ↔ x ∈ xs) hh e c F.sub_tuple_set F.sub_tuple_frozenset (by decide) (fun {_ _ s1 _} e1 h => wpAny_pyIter_tuple (s := s1) ⟨ol, e1, c, n, d⟩ h) (fun A' R tk ha hR => ?_) fun h' tk ⟨m, r1, r2, r3⟩ k => q h' tk m r1 r2 r3 k
    have lt := Heap.lt_size e
    obtain ⟨ne, nin, up⟩ := places (w := w) lt
    refine upd_texts (s := { s with heap := (s.heap.push (S0 w)).push _, toks := tk }) ((Walks.tuple (A := A'.in1) (by simpa using ha) _ l ne its).toS) (S := s.heap.objs.size) nin len hb val (its.size - 0) 0 [] (by omega) (Nat.zero_le _)
      ⟨⟨_, Heap.get?_push_size _ rfl, rfl, rfl⟩, ⟨ol, lkp e, c, n, d⟩⟩ (start _) (Nat.zero_le _) (fun x => by simp) fun s' m mv r1 r2 r3 => ?_
    obtain ⟨es, k⟩ := moved_end rfl up (fun b o z => lkp z) mv
    rw [es]
    exact hR _ _ ⟨m, r1, by omega, r3⟩ k
/-- set(x), ints, x a list or a tuple -/
theorem set_ints {l : Addr} {its : Array Value} {xs : List Int} {Q : Value → Shared → Prop} (hh : A.handled = none) (hl : s.heap.IsList l its ∨ s.heap.IsTuple l its) (hx : IntsAre its.toList xs) (hb : xs.length + 1 < scanBound)
    (q : ∀ h' tk c, SetR w h' s.heap.objs.size (fun j => decide (j ∈ xs)) c → c ≤ xs.length → (∀ b o, s.heap.get? b = some o → h'.get? b = some o) → Q (.ref s.heap.objs.size) { s with heap := h', toks := tk }) :
    wpAny (model P w) A (call (.type "set") [.ref l]) Q E s := by
  have len : its.size = xs.length := by rw [← Array.length_toList]; exact hx.length
  have val : ∀ i v, its[i]? = some v → ∃ k t, xs[i]? = some k ∧ v = Value.int k t := fun i v e => by
    have hi : i < xs.length := by rw [← len]; exact (Array.getElem?_eq_some_iff.mp e).1
    obtain ⟨t, et⟩ := IntsAre.int_at hx i v (by rw [Array.getElem?_toList]; exact e)
    exact ⟨xs[i], t, List.getElem?_eq_getElem hi, by rw [et, List.getD_eq_getElem?_getD, List.getElem?_eq_getElem hi] <;> rfl⟩
  have start : ∀ o', SetR w ((s.heap.push (S0 w)).push o') s.heap.objs.size (fun j => decide (j ∈ xs.take 0)) 0 := fun o' => setR_new_at (Heap.get?_push_of_some _ (Heap.get?_push_size _ rfl))
  rcases hl with ⟨ol, e, c, n, d⟩ | ⟨ol, e, c, n, d⟩
  · refine set_call (Res := fun h' => ∃ c, SetR w h' s.heap.objs.size (fun j => decide (j ∈ xs)) c ∧ c ≤ xs.length) hh e c F.sub_list_set F.sub_list_frozenset (by decide) (fun {_ _ s1 _} e1 h => wpAny_pyIter_list (s := s1) ⟨ol, e1, c, n, d⟩ h) (fun A' R tk ha hR => ?_) fun h' tk ⟨m, r1, r2⟩ k => q h' tk m r1 r2 k
    have lt := Heap.lt_size e
    obtain ⟨ne, nin, up⟩ := places (w := w) lt
    refine set_update_ints (s := { s with heap := (s.heap.push (S0 w)).push _, toks := tk }) ((Walks.list (A := A'.in1) (by simpa using ha) _ l ne its).toS) s.heap.objs.size nin xs len hb val (its.size - 0) 0 (by omega) (Nat.zero_le _)
      ⟨⟨_, Heap.get?_push_size _ rfl, rfl, rfl⟩, ⟨ol, lkp e, c, n, d⟩⟩ ⟨0, Nat.le_refl 0, start _⟩ fun s' c' mv r2 r1 => ?_
    obtain ⟨es, k⟩ := moved_end rfl up (fun b o z => lkp z) mv
    rw [es]
    exact hR _ _ ⟨c', r1, by omega⟩ k
  · refine set_call (Res := fun h' => ∃ c, SetR w h' s.heap.objs.size (fun j => decide (j ∈ xs)) c ∧ c ≤ xs.length) hh e c F.sub_tuple_set F.sub_tuple_frozenset (by decide) (fun {_ _ s1 _} e1 h => wpAny_pyIter_tuple (s := s1) ⟨ol, e1, c, n, d⟩ h) (fun A' R tk ha hR => ?_) fun h' tk ⟨m, r1, r2⟩ k => q h' tk m r1 r2 k
    have lt := Heap.lt_size e
    obtain ⟨ne, nin, up⟩ := places (w := w) lt
    refine set_update_ints (s := { s with heap := (s.heap.push (S0 w)).push _, toks := tk }) ((Walks.tuple (A := A'.in1) (by simpa using ha) _ l ne its).toS) s.heap.objs.size nin xs len hb val (its.size - 0) 0 (by omega) (Nat.zero_le _)
      ⟨⟨_, Heap.get?_push_size _ rfl, rfl, rfl⟩, ⟨ol, lkp e, c, n, d⟩⟩ ⟨0, Nat.le_refl 0, start _⟩ fun s' c' mv r2 r1 => ?_
    obtain ⟨es, k⟩ := moved_end rfl up (fun b o z => lkp z) mv
    rw [es]
    exact hR _ _ ⟨c', r1, by omega⟩ k
end
end St

namespace St
open PySem PySem.Spec PyProof.Rows L2 PySem.Froz
/-- the set of the texts m -/
def SetT (P : Program) (w : World) (a : Addr) (m : List Str) : HO := .ext fun h => TS P w h a m
theorem setT_new {P : Program} {w : World} {H : Hp} {h : Heap} {a : Addr} {m : List Str} (R : TS P w h a m) : ObjOk P w H h a (SetT P w a m) := by
  have ⟨D, e, _⟩ := R
  exact ⟨R, ⟨_, e⟩, fun h1 h2 p k => TS.at p k⟩
section
variable {X : Cx}
/-- what a list or a tuple holds -/
def SqX (K : PySem.W.Frag) (H : Hp) (a : Addr) (xs : List V) : Prop := SqL K H a xs ∨ SqT K H a xs
theorem inv_any {pins : List (Addr × Obj)} {σ : L2.St} {H : Hp} {s : Shared} {a : Addr} {xs : List V} (I : Inv X pins σ H s) (h : SqX X.K H a xs) : ∃ its : List Value, Vals xs its ∧ (s.heap.IsList a its.toArray ∨ s.heap.IsTuple a its.toArray) := by
  rcases h with h | h
  · obtain ⟨its, r, l, _⟩ := I.list h
    exact ⟨its, r, .inl l.isList⟩
  · obtain ⟨its, r, l, _⟩ := I.tuple h
    exact ⟨its, r, .inr l⟩
def rSetT (K : PySem.W.Frag) (P : Program) (w : World) : List V → Hp → VK → Prop := fun xs H Q => ∃ (l : Addr) (ns : List Str), xs = [.ref l] ∧ SqX K H l (ns.map V.str) ∧ ns.length ≤ 1000 ∧
  ∀ a m, H a = none → m.Nodup → m.length ≤ ns.length → (∀ x, x ∈ m ↔ x ∈ ns) → Q (.ref a) (upd H a (SetT P w a m))
theorem cr_setT (hc : X.calm = true) : CallR X (.type "set") (rSetT X.K X.prog X.w) := by
  intro pins s σ H xs us Q I r h
  obtain ⟨l, ns, rfl, hl, hb, q⟩ := h
  rw [Vals.ref1 r]
  obtain ⟨its, rv, hi⟩ := inv_any I hl
  refine set_texts (xs := ns) (I.ok.hd hc) hi (by simpa using rv.strs) (Nat.lt_of_le_of_lt (Nat.succ_le_succ hb) (by decide)) fun h' tk m R ml mm k => ?_
  obtain ⟨D, e, F, a3, a4, nd⟩ := id R
  exact ⟨.ref s.heap.objs.size, _, I.laid (t' := tk) k (Nat.le_refl _) (setT_new R), rfl, q _ m (I.hok.fresh (Nat.le_refl _)) nd ml mm⟩
def rSetI (K : PySem.W.Frag) (w : World) : List V → Hp → VK → Prop := fun xs H Q => ∃ (l : Addr) (ns : List Int), xs = [.ref l] ∧ SqX K H l (ns.map V.int) ∧ ns.length ≤ 1000 ∧
  ∀ a c, H a = none → c ≤ ns.length → Q (.ref a) (upd H a (SetO w a (fun j => decide (j ∈ ns)) c))
theorem cr_setI (hc : X.calm = true) : CallR X (.type "set") (rSetI X.K X.w) := by
  intro pins s σ H xs us Q I r h
  obtain ⟨l, ns, rfl, hl, hb, q⟩ := h
  rw [Vals.ref1 r]
  obtain ⟨its, rv, hi⟩ := inv_any I hl
  refine set_ints (xs := ns) (I.ok.hd hc) hi (by simpa using ints_of_vals rv) (Nat.lt_of_le_of_lt (Nat.succ_le_succ hb) (by decide)) fun h' tk c R cl k => ?_
  exact ⟨.ref s.heap.objs.size, _, I.laid (t' := tk) k (Nat.le_refl _) (setO_new R), rfl, q _ c (I.hok.fresh (Nat.le_refl _)) cl⟩
/-- sorted of a set of texts -/
def rSortT (P : Program) (w : World) : List V → Hp → VK → Prop := fun xs H Q => ∃ (a : Addr) (m : List Str), xs = [.ref a] ∧ H a = some (SetT P w a m) ∧ m.length ≤ 1000 ∧
  ∀ ys p, ys.Perm m → sortedS ys = true → H p = none → Q (.ref p) (upd H p (.lst (ys.map V.str)))
theorem strs_of : ∀ l : List Value, (∀ v ∈ l, ∃ x t, v = Value.str x t) → ∃ xs, StrsAre l xs
  | [], _ => ⟨[], .nil⟩
  | v :: l, h => by
    obtain ⟨x, t, rfl⟩ := h v List.mem_cons_self
    obtain ⟨xs, r⟩ := strs_of l fun u hu => h u (List.mem_cons_of_mem _ hu)
    exact ⟨x :: xs, .cons x t r⟩
theorem strs_vals : ∀ {l : List Value} {xs : List Str}, StrsAre l xs → ∀ x, x ∈ xs ↔ ∃ t, Value.str x t ∈ l
  | _, _, .nil => fun x => by simp
  | _, _, .cons y t r => fun x => by
    rw [List.mem_cons, strs_vals r x]
    constructor
    · rintro (rfl | ⟨u, hu⟩)
      · exact ⟨t, List.mem_cons_self⟩
      · exact ⟨u, List.mem_cons_of_mem _ hu⟩
    · rintro ⟨u, hu⟩
      rcases List.mem_cons.mp hu with z | z
      · cases z; exact .inl rfl
      · exact .inr ⟨u, z⟩
theorem perm_of : ∀ {b a : List Str}, b.Nodup → a.length = b.length → (∀ x, x ∈ b → x ∈ a) → a.Perm b
  | [], a, _, hl, _ => by
    obtain rfl : a = [] := List.length_eq_zero_iff.mp hl
    exact .refl _
  | x :: b, a, nd, hl, h => by
    obtain ⟨n1, n2⟩ := List.nodup_cons.mp nd
    have hx : x ∈ a := h x List.mem_cons_self
    have pe := List.perm_cons_erase hx
    refine pe.trans (.cons x (perm_of n2 ?_ fun y hy => ?_))
    · have := pe.length_eq
      rw [List.length_cons] at this hl
      omega
    · have ne : y ≠ x := fun z => n1 (z ▸ hy)
      exact (List.mem_erase_of_ne ne).mpr (h y (List.mem_cons_of_mem _ hy))
theorem cr_sortT (hc : X.calm = true) : CallR X (.builtin "sorted") (rSortT X.prog X.w) := by
  intro pins s σ H xs us Q I r h
  obtain ⟨a, m, rfl, ha, hb, q⟩ := h
  rw [Vals.ref1 r]
  obtain ⟨⟨es, ep, t⟩, e, F, ris, led, nd⟩ := id (show TS X.prog X.w s.heap a m from (I.hok a _ ha).1)
  have sz : es.size = m.length := F.sz
  have room : es.size < scanBound := by rw [sz]; exact Nat.lt_of_le_of_lt hb (by decide)
  refine Calls.call_function_entry kind_sorted plain_sorted entry_sorted (args_sorted1 _) ?_; unfold Builtin.«sorted»
  refine wpAny_bind (m := checkCount "sorted" 1 1 _) (wpAny_pure (wpAny_bind (collect_set (A := X.A.in1) (I.ok.hd hc) ⟨_, e, rfl, rfl⟩ F.fit room ris led fun s1 vs k1 z1 g1 o1 pm => ?_)))
  have vl : vs.length = m.length := by rw [pm.length_eq, List.length_map, Array.length_toList, sz]
  obtain ⟨ss, hS⟩ := strs_of vs fun v hv => by
    obtain ⟨x, hx, rfl⟩ := List.mem_map.mp (pm.mem_iff.mp hv)
    obtain ⟨⟨k, hk, _⟩, _⟩ := F.el x hx
    obtain ⟨u, hu⟩ := Value.isStrOf_shape (show Value.isStrOf k x.2 = true from hk)
    exact ⟨k, u, hu⟩
  have sm : ss.Perm m := perm_of nd (by rw [← hS.len_eq, vl]) fun x hx => by
    obtain ⟨y, hy, hk⟩ := (F.mem x).mp hx
    obtain ⟨u, hu⟩ := Value.isStrOf_shape (show Value.isStrOf x y.2 = true from hk)
    exact (strs_vals hS x).mpr ⟨u, hu ▸ pm.mem_iff.mpr (List.mem_map.mpr ⟨y, hy, rfl⟩)⟩
  have line : vs.length ≤ sizeLine := by rw [vl, sizeLine_eq]; omega
  refine wpAny_bind (wpAny_newList ?_ line)
  have hoL : (s1.heap.push (seqObj "list" vs.toArray 0)).get? s1.heap.objs.size = some (seqObj "list" vs.toArray 0) := Heap.get?_push_size _ rfl
  refine wpAny_bind (wpAny_holding (wpAny_call_entry PyProof.Rows.slot_list_sort ⟨_, hoL, rfl⟩ PyProof.Rows.entry_list_sort (list_sort_treeKAny strKind_oneLt hoL hS.keysOf (fun v1 v2 rest z => keyKind_strs (by rw [← z]; exact hS)) line fun st hp hs => ⟨_, rfl, ?_⟩) (PyProof.Rows.args_list_sort _)))
  obtain ⟨ys, y1, y2, y3⟩ := sorted_out_str hS hp hs
  obtain ⟨c, hcx⟩ := sortedHeap_at (vs := vs) (out := (arrOf st).map (·.2)) hoL
  have old : ∀ b u, s.heap.get? b = some u → (sortedHeap (s1.heap.push (seqObj "list" vs.toArray 0)) s1.heap.objs.size vs ((arrOf st).map (·.2))).get? b = some u := fun b u eb => by
    have q1 := k1 b u eb
    rw [sortedHeap_old (Nat.ne_of_lt (Heap.lt_size q1)) (by rw [size_push']; exact Nat.lt_succ_of_lt (Heap.lt_size q1))]
    exact Heap.get?_push_of_some _ q1
  have zl : (ys.map V.str).length ≤ sizeLine := by rw [List.length_map, (y2.trans sm).length_eq, sizeLine_eq]; omega
  have hn : H s1.heap.objs.size = none := I.hok.fresh z1
  have J : Inv X pins σ (upd H s1.heap.objs.size (.lst (ys.map V.str))) { s with heap := sortedHeap (s1.heap.push (seqObj "list" vs.toArray 0)) s1.heap.objs.size vs ((arrOf st).map (·.2)), gens := s1.gens, drawn := s1.drawn, toks := s1.toks } :=
    I.call (ch := []) (Un.laid old z1 hn) (I.hok.laid old z1 ⟨zl, ((arrOf st).map (·.2)).toList, c, vals_of_strs y1, hcx⟩) (by rw [g1]; exact I.bare) (fun _ z => nomatch z)
  refine wpAny_pure ⟨_, rfl, .ref s1.heap.objs.size, _, ?_, rfl, q ys _ (y2.trans sm) y3 hn⟩
  cases s1; cases s; dsimp only at o1; subst o1
  exact J
end
end St

namespace Hb
open PySem PySem.Spec PyProof.Rows L2
/-! ### heaps -/
theorem same_new {H : Hp} {p : Addr} (h : H p = none) (o : HO) : Same H (upd H p o) := fun b u q => by
  rw [upd_ne (ne_of_none q h)]
  exact q
/-- a new object -/
theorem new_at {H : Hp} {p : Addr} {o : HO} {G : Hp → Prop} (h : H p = none) (k : ∀ H', Same H H' → H' p = some o → G H') : G (upd H p o) := k _ (same_new h o) upd_same
/-- a new tuple, a new list as the value of a display -/
theorem tup_at {H : Hp} {xs : List V} {Q : VK} (hl : xs.length ≤ 1000) (k : ∀ p H', H p = none → Same H H' → H' p = some (.tup xs) → Q (.ref p) H') : xs.length ≤ sizeLine ∧ ∀ p, H p = none → Q (.ref p) (upd H p (.tup xs)) :=
  ⟨Nat.le_trans hl (by decide), fun p hp => k p _ hp (same_new hp _) upd_same⟩
theorem lst_at {H : Hp} {xs : List V} {Q : VK} (hl : xs.length ≤ 1000) (k : ∀ p H', H p = none → Same H H' → H' p = some (.lst xs) → Q (.ref p) H') : xs.length ≤ sizeLine ∧ ∀ p, H p = none → Q (.ref p) (upd H p (.lst xs)) :=
  ⟨Nat.le_trans hl (by decide), fun p hp => k p _ hp (same_new hp _) upd_same⟩
/-- all but the object at p is as it was -/
def Kept (p : Addr) (H H' : Hp) : Prop := ∀ b o, H b = some o → b ≠ p → H' b = some o
theorem Same.kept {H H' : Hp} {p : Addr} (h : Same H H') : Kept p H H' := fun b o e _ => h b o e
theorem Kept.refl (p : Addr) (H : Hp) : Kept p H H := fun _ _ h _ => h
theorem Kept.trans {p : Addr} {H H1 H2 : Hp} (a : Kept p H H1) (b : Kept p H1 H2) : Kept p H H2 := fun c o h n => b c o (a c o h n) n
theorem kept_upd {p : Addr} {H : Hp} {o : HO} : Kept p H (upd H p o) := fun b u e n => by rw [upd_ne n]; exact e
/-- a tuple stays where the list at p changes -/
theorem Kept.tup {p t : Addr} {H H' : Hp} {xs ys : List V} (k : Kept p H H') (hp : H p = some (.lst ys)) (h : H t = some (.tup xs)) : H' t = some (.tup xs) := k t _ h (ne_of h hp (by intro z; cases z))

/-! ### tests -/
theorem iteD {c A B : Prop} [Decidable c] (h1 : c → A) (h2 : ¬ c → B) : if decide c = true then A else B := by
  by_cases h : c
  · rw [decide_eq_true h]
    exact iteT (h1 h)
  · rw [decide_eq_false h]
    exact iteF (h2 h)
theorem iteN {c A B : Prop} [Decidable c] (h1 : ¬ c → A) (h2 : c → B) : if (!decide c) = true then A else B := by
  by_cases h : c
  · rw [decide_eq_true h]
    exact iteF (h2 h)
  · rw [decide_eq_false h]
    exact iteT (h1 h)
theorem divw {i j : Int} (h0 : 0 < j) (h : j < 2 ^ 100) : CDivW i j := wide_div (b := 100) h0 (by omega) (by decide) (by decide)

/-! ### the defs of a text, by their promises -/
structure Cl (P : Program) (w : World) (K : PySem.W.Frag) (mg : Str → Option Value) (base : Heap) (x : Str) (ps : List Str) (dvs : List V) (lv : Nat) (sp : Sp) : Prop where
  ex : ∃ (f : Addr) (fd : FuncData) (ds : List Value), FnOk P w K mg base CX0 lv f fd ps sp ∧ mg x = some (.ref f) ∧ PySem.W.keepIn K (.ref f) = true ∧ Binds K fd ps ds ∧ Vals dvs ds
section
variable {X : Cx} {ps : List Str} {dvs : List V} {lv : Nat} {sp : Sp} {x : Str} {p pos : Pos} {e : Expr} {es : List Expr} {t : TA}
theorem pe_use (C : Cl X.prog X.w X.K X.mg X.base x ps dvs lv sp) (hr : Room lv X.A) (hg : Gl X x) (ha : PA X (e :: es) t) (hdb : (x == ("__debug__" : Str)) = false := by decide)
    (he : starEach (e :: es) X.env = (false, eval e X.env) :: starEach es X.env := by rfl) (hpl : (backTo pos (starEach es X.env)).any (·.1) = false := by rfl) : PE X (.Call (.Name x p) (e :: es) [] pos) (tCall sp dvs E0 t) := by
  obtain ⟨f, fd, ds, F, hm, hk, hb, hd⟩ := C.ex
  exact pe_call F hr hg hm hk hb hd pass0 ha hdb he hpl
theorem pe_use0 (C : Cl X.prog X.w X.K X.mg X.base x ps dvs lv sp) (hr : Room lv X.A) (hg : Gl X x) (hdb : (x == ("__debug__" : Str)) = false := by decide) : PE X (.Call (.Name x p) [] [] pos) (tCall sp dvs E0 tNil) := by
  obtain ⟨f, fd, ds, F, hm, hk, hb, hd⟩ := C.ex
  exact pe_call0 F hr hg hm hk hb hd pass0 hdb
end
/-- f(k = v, ..) without a value by place -/
structure ClK (P : Program) (w : World) (K : PySem.W.Frag) (mg : Str → Option Value) (base : Heap) (x : Str) (ps : List Str) (n : Nat) (ks : List Str) (gV : List V → List V → List V) (lv : Nat) (sp : Sp) : Prop where
  ex : ∃ (f : Addr) (fd : FuncData) (g : List Value → List Value → List Value), FnOk P w K mg base CX0 lv f fd ps sp ∧ mg x = some (.ref f) ∧ PySem.W.keepIn K (.ref f) = true ∧ KBn K fd ps n ks g gV
section
variable {X : Cx} {ps ks : List Str} {n : Nat} {gV : List V → List V → List V} {lv : Nat} {sp : Sp} {x : Str} {p pos : Pos} {e : Expr} {es : List Expr} {t tk : TA} {kws : List Keyword}
theorem pe_useK0 (C : ClK X.prog X.w X.K X.mg X.base x ps 0 ks gV lv sp) (hr : Room lv X.A) (hg : Gl X x) (hkw : PK X kws tk) (hall : (backToKw pos (keywordEach kws X.env)).all (·.1.isSome) = true := by rfl) (hks : (backToKw pos (keywordEach kws X.env)).filterMap (·.1) = ks := by rfl)
    (hdb : (x == ("__debug__" : Str)) = false := by decide) (hpl : ((backTo pos (starEach [] X.env)).any (·.1) || (backToKw pos (keywordEach kws X.env)).any (·.1.isNone)) = false := by rfl) :
    PE X (.Call (.Name x p) [] kws pos) (tCallN 0 ks.length sp gV E0 tNil tk) := by
  obtain ⟨f, fd, g, F, hm, hk, hb⟩ := C.ex
  refine ⟨fun pins s σ H Q I h => ?_⟩
  refine wpAny_Call_Name_kw (ld_glob I hg hm ?_ hdb)
  refine PySem.W.callWith_KW0 (h₀ := X.base) I.ok.mod.kin hk hall ?_ hpl
  refine thn (hkw.run pos pins s σ H _ I h) fun ws s2 ⟨zs, H2, I2, rz, l1, l2, q2⟩ => ⟨I2.kIn, ?_⟩
  rw [hks]
  exact run_fnN (us := []) (vs := []) F hr hb pass0 I2 .nil rz rfl l2 q2
theorem pe_useK (C : ClK X.prog X.w X.K X.mg X.base x ps n ks gV lv sp) (hr : Room lv X.A) (hg : Gl X x) (ha : PA X (e :: es) t) (hkw : PK X kws tk) (hall : (backToKw pos (keywordEach kws X.env)).all (·.1.isSome) = true := by rfl)
    (hks : (backToKw pos (keywordEach kws X.env)).filterMap (·.1) = ks := by rfl)
    (hdb : (x == ("__debug__" : Str)) = false := by decide) (he : starEach (e :: es) X.env = (false, eval e X.env) :: starEach es X.env := by rfl)
    (hpl : ((backTo pos (starEach (e :: es) X.env)).any (·.1) || (backToKw pos (keywordEach kws X.env)).any (·.1.isNone)) = false := by rfl) :
    PE X (.Call (.Name x p) (e :: es) kws pos) (tCallN n ks.length sp gV E0 t tk) := by
  obtain ⟨f, fd, g, F, hm, hk, hb⟩ := C.ex
  exact pe_callN F hr hg hm hk hb pass0 ha hkw hall hks hdb he hpl
end
/-- positional and keyword arguments that fill all parameters of a def with defaults -/
theorem kb_full {K : PySem.W.Frag} {x qual : Str} {params : Arguments} {body : List Stmt} {scope : Scope} {dvs : List V} {f : Addr} {fd : FuncData} {ps : List Str} (F : FunD K x qual params body scope dvs [] f fd) (n : Nat) (ks : List Str) (g : {α : Type} → List α → List α → List α → List α) (hd : dvs ≠ [])
    (hrel : ∀ {vs ds zs : List V} {us its ws : List Value}, Vals vs us → Vals ds its → Vals zs ws → Vals (g vs ds zs) (g us its ws))
    (h : ∀ (T : Addr) (kV doc pm : Value) (an : Option Addr) (cdv ct : Value) (us its ws : List Value), us.length = n → its.length = dvs.length → ws.length = ks.length →
      ∃ k, bindArgs (PySem.W.fnOf x qual params body scope (.ref T) kV doc pm an cdv ct) ⟨us, ks.zip ws⟩ = seqItems? (.ref T) >>= k ∧ k (some its.toArray) = pure (ps.zip (g us its ws))) :
    ∃ its : List Value, KBn K fd ps n ks (fun us ws => g us its ws) (fun vs zs => g vs dvs zs) := by
  obtain ⟨oc, od, dV, kV, doc, pm, an, cdv, ct, osl, rfl, lk, hcd, hD, hK⟩ := F.ex
  rcases hD with ⟨e, _⟩ | ⟨_, T, o, its, m, rfl, lT, oT, rT⟩
  · exact absurd e hd
  · refine ⟨its, ⟨fun s us ws X l1 l2 => ?_, fun r1 r2 => hrel r1 rT r2⟩⟩
    obtain ⟨k, e1, e2⟩ := h T kV doc pm an cdv ct us its ws l1 rT.length.symm l2
    refine BindsTo.of_looks fun M => ?_
    rw [e1]
    exact looks_items X lT oT (.of_pure e2)
end Hb

namespace St
open PySem PySem.Spec PyProof.Rows L2 PySem.Froz
/-! ### lots: what sorted(set(..)) is -/
def sLt (a b : Str) : Prop := a.cps.toList < b.cps.toList
instance (a b : Str) : Decidable (sLt a b) := inferInstanceAs (Decidable (_ < _))
theorem sLt_irr (a : Str) : ¬ sLt a a := List.lt_irrefl _
theorem sLt_tr {a b c : Str} (h : sLt a b) (k : sLt b c) : sLt a c := List.lt_trans h k
theorem sLt_as {a b : Str} (h : sLt a b) : ¬ sLt b a := fun k => sLt_irr a (sLt_tr h k)
theorem sLt_eq {a b : Str} (h : ¬ sLt a b) (k : ¬ sLt b a) : a = b := by
  have e : a.cps.toList = b.cps.toList := List.le_antisymm (List.not_lt.mp k) (List.not_lt.mp h)
  cases a; cases b
  exact congrArg Str.mk (Array.toList_inj.mp e)
section
variable {α : Type} (lt : α → α → Prop) [DecidableRel lt] [DecidableEq α]
def ins (x : α) : List α → List α
  | [] => [x]
  | y :: r => if x = y then y :: r else if lt x y then x :: y :: r else y :: ins x r
def lotBy : List α → List α
  | [] => []
  | x :: r => ins lt x (lotBy r)
theorem mem_ins {x y : α} : ∀ {l : List α}, y ∈ ins lt x l ↔ y = x ∨ y ∈ l
  | [] => by simp [ins]
  | z :: r => by
    unfold ins
    split
    · rename_i h; subst h; simp
    · split
      · simp
      · rw [List.mem_cons, mem_ins (l := r), List.mem_cons]
        exact ⟨fun h => h.elim (fun h => .inr (.inl h)) fun h => h.elim .inl fun h => .inr (.inr h), fun h => h.elim (fun h => .inr (.inl h)) fun h => h.elim .inl fun h => .inr (.inr h)⟩
theorem mem_lotBy {y : α} : ∀ {l : List α}, y ∈ lotBy lt l ↔ y ∈ l
  | [] => Iff.rfl
  | x :: r => by rw [lotBy, mem_ins, mem_lotBy (l := r), List.mem_cons]
theorem asc_ins (tri : ∀ a b, ¬ lt a b → ¬ a = b → lt b a) (tr : ∀ a b c, lt a b → lt b c → lt a c) {x : α} : ∀ {l : List α}, l.Pairwise lt → (ins lt x l).Pairwise lt
  | [], _ => List.pairwise_singleton _ _
  | y :: r, h => by
    obtain ⟨h1, h2⟩ := List.pairwise_cons.mp h
    unfold ins
    split
    · exact h
    · rename_i ne
      split
      · rename_i lxy
        exact List.pairwise_cons.mpr ⟨fun z hz => (List.mem_cons.mp hz).elim (fun e => e ▸ lxy) fun hz => tr _ _ _ lxy (h1 z hz), h⟩
      · rename_i nl
        refine List.pairwise_cons.mpr ⟨fun z hz => ?_, asc_ins tri tr h2⟩
        rcases (mem_ins lt).mp hz with rfl | hz
        · exact tri _ _ nl ne
        · exact h1 z hz
theorem asc_lotBy (tri : ∀ a b, ¬ lt a b → ¬ a = b → lt b a) (tr : ∀ a b c, lt a b → lt b c → lt a c) : ∀ l : List α, (lotBy lt l).Pairwise lt
  | [] => .nil
  | x :: r => asc_ins lt tri tr (asc_lotBy tri tr r)
theorem len_ins (x : α) : ∀ l : List α, (ins lt x l).length ≤ l.length + 1
  | [] => Nat.le_refl _
  | y :: r => by
    unfold ins
    split
    · exact Nat.le_succ _
    · split
      · exact Nat.le_refl _
      · exact Nat.succ_le_succ (len_ins x r)
theorem len_lotBy : ∀ l : List α, (lotBy lt l).length ≤ l.length
  | [] => Nat.le_refl _
  | x :: r => Nat.le_trans (len_ins lt x _) (Nat.succ_le_succ (len_lotBy r))
theorem asc_eq (irr : ∀ a, ¬ lt a a) (tr : ∀ a b c, lt a b → lt b c → lt a c) : ∀ {l m : List α}, l.Pairwise lt → m.Pairwise lt → (∀ x, x ∈ l ↔ x ∈ m) → l = m
  | [], [], _, _, _ => rfl
  | [], y :: m, _, _, h => absurd ((h y).mpr List.mem_cons_self) (by simp)
  | x :: l, [], _, _, h => absurd ((h x).mp List.mem_cons_self) (by simp)
  | x :: l, y :: m, hl, hm, h => by
    obtain ⟨l1, l2⟩ := List.pairwise_cons.mp hl
    obtain ⟨m1, m2⟩ := List.pairwise_cons.mp hm
    have e : x = y := by
      rcases List.mem_cons.mp ((h x).mp List.mem_cons_self) with z | z
      · exact z
      · rcases List.mem_cons.mp ((h y).mpr List.mem_cons_self) with u | u
        · exact u.symm
        · exact absurd (tr _ _ _ (m1 x z) (l1 y u)) (irr _)
    subst e
    rw [asc_eq irr tr l2 m2 fun z => ?_]
    constructor
    · intro hz
      rcases List.mem_cons.mp ((h z).mp (List.mem_cons_of_mem _ hz)) with e | e
      · subst e; exact absurd (l1 z hz) (irr z)
      · exact e
    · intro hz
      rcases List.mem_cons.mp ((h z).mpr (List.mem_cons_of_mem _ hz)) with e | e
      · subst e; exact absurd (m1 z hz) (irr z)
      · exact e
end
/-- the lot of texts, of ints -/
def lotS (l : List Str) : List Str := lotBy sLt l
def lotI (l : List Int) : List Int := lotBy (· < ·) l
theorem mem_lotS {x : Str} {l : List Str} : x ∈ lotS l ↔ x ∈ l := mem_lotBy _
theorem mem_lotI {x : Int} {l : List Int} : x ∈ lotI l ↔ x ∈ l := mem_lotBy _
theorem asc_lotS (l : List Str) : (lotS l).Pairwise sLt := asc_lotBy _ (fun a b h k => Decidable.byContradiction fun z => k (sLt_eq h z)) (fun _ _ _ => sLt_tr) l
theorem asc_lotI (l : List Int) : (lotI l).Pairwise (· < ·) := asc_lotBy _ (fun a b h k => (Int.lt_trichotomy a b).elim (absurd · h) fun z => z.elim (absurd · k) id) (fun _ _ _ => Int.lt_trans) l
theorem len_lotS (l : List Str) : (lotS l).length ≤ l.length := len_lotBy _ l
theorem len_lotI (l : List Int) : (lotI l).length ≤ l.length := len_lotBy _ l
theorem lotS_eq {ys l : List Str} (h : ys.Pairwise sLt) (m : ∀ x, x ∈ ys ↔ x ∈ l) : ys = lotS l := asc_eq sLt sLt_irr (fun _ _ _ => sLt_tr) h (asc_lotS l) fun x => (m x).trans mem_lotS.symm
theorem lotI_eq {ys l : List Int} (h : ys.Pairwise (· < ·)) (m : ∀ x, x ∈ ys ↔ x ∈ l) : ys = lotI l := asc_eq (· < ·) (fun _ => Int.lt_irrefl _) (fun _ _ _ => Int.lt_trans) h (asc_lotI l) fun x => (m x).trans mem_lotI.symm
theorem lotS_congr {l m : List Str} (h : ∀ x, x ∈ l ↔ x ∈ m) : lotS l = lotS m := lotS_eq (asc_lotS l) fun x => mem_lotS.trans (h x)
theorem lotI_congr {l m : List Int} (h : ∀ x, x ∈ l ↔ x ∈ m) : lotI l = lotI m := lotI_eq (asc_lotI l) fun x => mem_lotI.trans (h x)
theorem lotS_idem (l : List Str) : lotS (lotS l) = lotS l := lotS_congr fun _ => mem_lotS
theorem asc_nodupS {l : List Str} (h : l.Pairwise sLt) : l.Nodup := List.Pairwise.imp (S := (· ≠ ·)) (fun {a b} (k : sLt a b) (z : a = b) => sLt_irr b (z ▸ k)) h
theorem ris_asc : ∀ {l : List Str} {p : Str}, risingS p l = true → (p :: l).Nodup → (p :: l).Pairwise sLt
  | [], p, _, _ => List.pairwise_singleton _ _
  | x :: r, p, h, nd => by
    obtain ⟨h1, h2⟩ := Bool.and_eq_true_iff.mp (show (!ltCps x.cps.toList p.cps.toList && risingS x r) = true from h)
    obtain ⟨n1, n2⟩ := List.nodup_cons.mp nd
    have a := ris_asc h2 n2
    rw [ltCps_eq, Bool.not_eq_true'] at h1
    have nl : ¬ sLt x p := of_decide_eq_false h1
    have lp : sLt p x := Decidable.byContradiction fun z => n1 (by rw [sLt_eq z nl]; exact List.mem_cons_self)
    exact List.pairwise_cons.mpr ⟨fun z hz => (List.mem_cons.mp hz).elim (fun e => e ▸ lp) fun hz => sLt_tr lp ((List.pairwise_cons.mp a).1 z hz), a⟩
theorem sorted_asc {l : List Str} (h : sortedS l = true) (nd : l.Nodup) : l.Pairwise sLt := match l, h, nd with
  | [], _, _ => .nil
  | _ :: _, h, nd => ris_asc h nd
/-! ### the rules of tuple(sorted(set(x))) -/
section
variable {X : Cx}
theorem cr_or {f : Value} {r1 r2 : List V → Hp → VK → Prop} (a : CallR X f r1) (b : CallR X f r2) : CallR X f (fun xs H Q => r1 xs H Q ∨ r2 xs H Q) := fun pins s σ H xs us Q I r h => h.elim (a pins s σ H xs us Q I r) (b pins s σ H xs us Q I r)
@[irreducible] def rSet (K : PySem.W.Frag) (P : Program) (w : World) : List V → Hp → VK → Prop := fun xs H Q => rSetT K P w xs H Q ∨ rSetI K w xs H Q
@[irreducible] def rSorted2 (P : Program) (w : World) : List V → Hp → VK → Prop := fun xs H Q => rSortT P w xs H Q ∨ rSortedSet w xs H Q
theorem cr_set (hc : X.calm = true) : CallR X (.type "set") (rSet X.K X.prog X.w) := by unfold rSet; exact cr_or (cr_setT hc) (cr_setI hc)
theorem cr_sorted2 (hc : X.calm = true) : CallR X (.builtin "sorted") (rSorted2 X.prog X.w) := by unfold rSorted2; exact cr_or (cr_sortT hc) (cr_sortedSet hc)
end
/-- the reading of tuple(sorted(set(x))) -/
theorem rd_lotS {K : PySem.W.Frag} {P : Program} {w : World} {H : Hp} {a : Addr} {ns : List Str} {Q : VK} (h : SqX K H a (ns.map V.str)) (hl : ns.length ≤ 1000) (q : ∀ p H', Same H H' → H' p = some (.tup ((lotS ns).map V.str)) → Q (.ref p) H') :
    rSet K P w [.ref a] H fun u H1 => rSorted2 P w [u] H1 fun z H2 => ∃ p ys, [z] = [V.ref p] ∧ ((SqL K H2 p ys ∧ ∀ l, H2 l = none → Q (.ref l) (upd H2 l (.tup ys))) ∨ (SqT K H2 p ys ∧ Q (.ref p) H2)) := by
  unfold rSet
  refine .inl ⟨a, ns, rfl, h, hl, fun b m hb nd ml mm => ?_⟩
  unfold rSorted2
  refine .inl ⟨b, m, rfl, upd_same, Nat.le_trans ml hl, fun ys p pm so hp => ⟨p, ys.map V.str, rfl, .inl ⟨SqL.of upd_same, fun l hn => ?_⟩⟩⟩
  have e : ys = lotS ns := lotS_eq (sorted_asc so (pm.nodup_iff.mpr nd)) fun x => pm.mem_iff.trans (mm x)
  rw [e] at hn ⊢
  have s1 : Same H (upd H b (SetT P w b m)) := fun c o e => by rw [upd_ne (ne_of_none e hb)]; exact e
  have s2 : Same (upd H b (SetT P w b m)) (upd (upd H b (SetT P w b m)) p (.lst ((lotS ns).map V.str))) := fun c o e => by rw [upd_ne (ne_of_none e hp)]; exact e
  have s3 : Same (upd (upd H b (SetT P w b m)) p (.lst ((lotS ns).map V.str))) (upd (upd (upd H b (SetT P w b m)) p (.lst ((lotS ns).map V.str))) l (.tup ((lotS ns).map V.str))) := fun c o e => by rw [upd_ne (ne_of_none e hn)]; exact e
  exact q l _ (fun c o e => s3 c o (s2 c o (s1 c o e))) upd_same
theorem rd_lotI {K : PySem.W.Frag} {P : Program} {w : World} {H : Hp} {a : Addr} {ns : List Int} {Q : VK} (h : SqX K H a (ns.map V.int)) (hl : ns.length < 64) (q : ∀ p H', Same H H' → H' p = some (.tup ((lotI ns).map V.int)) → Q (.ref p) H') :
    rSet K P w [.ref a] H fun u H1 => rSorted2 P w [u] H1 fun z H2 => ∃ p ys, [z] = [V.ref p] ∧ ((SqL K H2 p ys ∧ ∀ l, H2 l = none → Q (.ref l) (upd H2 l (.tup ys))) ∨ (SqT K H2 p ys ∧ Q (.ref p) H2)) := by
  unfold rSet
  refine .inr ⟨a, ns, rfl, h, Nat.le_trans (Nat.le_of_lt hl) (by decide), fun b c hb cl => ?_⟩
  unfold rSorted2
  refine .inr ⟨b, _, c, rfl, upd_same, Nat.lt_of_le_of_lt cl hl, fun ys p so mm _ hp => ⟨p, ys.map V.int, rfl, .inl ⟨SqL.of upd_same, fun l hn => ?_⟩⟩⟩
  have e : ys = lotI ns := lotI_eq so fun x => (mm x).trans decide_eq_true_iff
  rw [e] at hn ⊢
  have s1 : Same H (upd H b (SetO w b (fun j => decide (j ∈ ns)) c)) := fun d o e => by rw [upd_ne (ne_of_none e hb)]; exact e
  refine q l _ (fun d o e => ?_) upd_same
  have e1 := s1 d o e
  rw [upd_ne (ne_of_none (by rw [upd_ne (ne_of_none e1 hp)]; exact e1) hn), upd_ne (ne_of_none e1 hp)]
  exact e1
end St

/-! own classes of the text: made, their methods, their == -/
namespace Ow
open PySem PySem.Spec PyProof.Rows L2 Hb
/-- a class of the text, made by its __init__'s promise -/
structure Cm (P : Program) (w : World) (K : PySem.W.Frag) (mg : Str → Option Value) (base : Heap) (x : Str) (C : Addr) (ps : List Str) (lv : Nat) (sp : Sp) : Prop where
  ex : ∃ (f : Addr) (fd : FuncData), Mk K C f ∧ FnOk P w K mg base CX0 lv f fd ps sp ∧ mg x = some (.ref C) ∧ Binds K fd ps []
/-- a class made by keywords alone: its parameters behind self in the order of gV -/
structure CmK (P : Program) (w : World) (K : PySem.W.Frag) (mg : Str → Option Value) (base : Heap) (x : Str) (C : Addr) (ps ks : List Str) (gV : List V → List V → List V) (lv : Nat) (sp : Sp) : Prop where
  ex : ∃ (f : Addr) (fd : FuncData) (g : List Value → List Value → List Value), Mk K C f ∧ FnOk P w K mg base CX0 lv f fd ps sp ∧ mg x = some (.ref C) ∧ KBn K fd ps 1 ks g gV
/-- a method of an own class -/
structure Ch (P : Program) (w : World) (K : PySem.W.Frag) (mg : Str → Option Value) (base : Heap) (C : Addr) (m : Str) (ps : List Str) (dvs : List V) (lv : Nat) (sp : Sp) : Prop where
  ex : ∃ (f : Addr) (fd : FuncData) (ds : List Value), Meth K C m f ∧ FnOk P w K mg base CX0 lv f fd ps sp ∧ Binds K fd ps ds ∧ Vals dvs ds
structure ChK (P : Program) (w : World) (K : PySem.W.Frag) (mg : Str → Option Value) (base : Heap) (C : Addr) (m : Str) (ps ks : List Str) (gV : List V → List V → List V) (lv : Nat) (sp : Sp) : Prop where
  ex : ∃ (f : Addr) (fd : FuncData) (g : List Value → List Value → List Value), Meth K C m f ∧ FnOk P w K mg base CX0 lv f fd ps sp ∧ KBn K fd ps 1 ks g gV
section
variable {X : Cx} {C : Addr} {ps ks : List Str} {gV : List V → List V → List V} {dvs : List V} {lv : Nat} {sp : Sp} {x m : Str} {p pos apos : Pos} {e o : Expr} {es : List Expr} {kws : List Keyword} {t tk : TA} {ta : TE}
theorem pe_new (M : Cm X.prog X.w X.K X.mg X.base x C ps lv sp) (hr : Room (lv + 1) X.A) (hg : Gl X x) (ha : PA X (e :: es) t) (hdb : (x == ("__debug__" : Str)) = false := by decide)
    (he : starEach (e :: es) X.env = (false, eval e X.env) :: starEach es X.env := by rfl) (hpl : (backTo pos (starEach es X.env)).any (·.1) = false := by rfl) : PE X (.Call (.Name x p) (e :: es) [] pos) (tMake C sp [] E0 t) := by
  obtain ⟨f, fd, mk, F, hm, hb⟩ := M.ex
  exact pe_make mk F hr hg hm hb .nil pass0 ha hdb he hpl
theorem pe_newK (M : CmK X.prog X.w X.K X.mg X.base x C ps ks gV lv sp) (hr : Room (lv + 1) X.A) (hg : Gl X x) (hkw : PK X kws tk)
    (hall : (backToKw pos (keywordEach kws X.env)).all (·.1.isSome) = true := by rfl) (hks : (backToKw pos (keywordEach kws X.env)).filterMap (·.1) = ks := by rfl) (hdb : (x == ("__debug__" : Str)) = false := by decide)
    (hpl : ((backTo pos (starEach [] X.env)).any (·.1) || (backToKw pos (keywordEach kws X.env)).any (·.1.isNone)) = false := by rfl) : PE X (.Call (.Name x p) [] kws pos) (tMakeK C 0 ks.length sp gV E0 tNil tk) := by
  obtain ⟨f, fd, g, mk, F, hm, hb⟩ := M.ex
  exact pe_makeK0 mk F hr hg hm hb pass0 hkw hall hks hdb hpl
theorem pe_do {pl : Sem Bool} (M : Ch X.prog X.w X.K X.mg X.base C m ps dvs lv sp) (c : Cls X.K C) (hr : Room lv X.A) (ho : PE X o ta) (ha : PA X (e :: es) t)
    (hst : starEach (e :: es) X.env = (false, eval e X.env) :: starEach es X.env := by rfl) (hpl : (backTo pos (starEach es X.env)).any (·.1) = false := by rfl)
    (ht : eval (.Call (.Attribute o m apos) (e :: es) [] pos) X.env = (do
      let v ← eval o X.env
      standAt apos.atName
      let (f, first) ← holding [v] (getMethod v m pl)
      callWith pos f first (backTo pos (starEach (e :: es) X.env)) (backToKw pos (keywordEach [] X.env))) := by rfl) : PE X (.Call (.Attribute o m apos) (e :: es) [] pos) (tMeth C m sp dvs E0 ta t) := by
  obtain ⟨f, fd, ds, hm, F, hb, hd⟩ := M.ex
  exact pe_meth ho c hm F hr hb hd pass0 ha hst hpl ht
theorem pe_do0 {pl : Sem Bool} (M : Ch X.prog X.w X.K X.mg X.base C m ps dvs lv sp) (c : Cls X.K C) (hr : Room lv X.A) (ho : PE X o ta)
    (ht : eval (.Call (.Attribute o m apos) [] [] pos) X.env = (do
      let v ← eval o X.env
      standAt apos.atName
      let (f, first) ← holding [v] (getMethod v m pl)
      callWith pos f first (backTo pos (starEach [] X.env)) (backToKw pos (keywordEach [] X.env))) := by rfl) : PE X (.Call (.Attribute o m apos) [] [] pos) (tMeth C m sp dvs E0 ta tNil) := by
  obtain ⟨f, fd, ds, hm, F, hb, hd⟩ := M.ex
  exact pe_meth0 ho c hm F hr hb hd pass0 ht
/-- o.m(k = v, ..) -/
def tMethK (C : Addr) (m : Str) (n : Nat) (sp : Sp) (gV : List V → List V → List V) (ta : TE) (tk : TA) : TE := fun σ H Q => ta σ H fun x H1 => ∃ a dx fs, x = .ref a ∧ H1 a = some (.ins C dx fs) ∧ fs.lookup m = none ∧ tk σ H1 fun zs H2 => zs.length = n ∧ sp (gV [x] zs) H2 Q E0
theorem pe_doK {pl : Sem Bool} (M : ChK X.prog X.w X.K X.mg X.base C m ps ks gV lv sp) (c : Cls X.K C) (hr : Room lv X.A) (ho : PE X o ta) (hkw : PK X kws tk)
    (hall : (backToKw pos (keywordEach kws X.env)).all (·.1.isSome) = true := by rfl) (hks : (backToKw pos (keywordEach kws X.env)).filterMap (·.1) = ks := by rfl)
    (hpl : ((backTo pos (starEach [] X.env)).any (·.1) || (backToKw pos (keywordEach kws X.env)).any (·.1.isNone)) = false := by rfl)
    (ht : eval (.Call (.Attribute o m apos) [] kws pos) X.env = (do
      let v ← eval o X.env
      standAt apos.atName
      let (f, first) ← holding [v] (getMethod v m pl)
      callWith pos f first (backTo pos (starEach [] X.env)) (backToKw pos (keywordEach kws X.env))) := by rfl) : PE X (.Call (.Attribute o m apos) [] kws pos) (tMethK C m ks.length sp gV ta tk) := by
  obtain ⟨f, fd, g, hm, F, hb⟩ := M.ex
  refine ⟨fun pins s σ H Q I h => ?_⟩
  refine PySem.W.methodCall_KW (pl := pl) (thn (ho.run pins s σ H _ I h) fun u s1 ⟨x, H1, I1, rx, a, dx, fs, ex, ea, l, q⟩ => ?_) ht
  subst ex; obtain rfl : u = Value.ref a := rx
  refine getmeth_ok I1 ea c hm l ?_
  refine PySem.W.callWith_KW0 (first := [.ref a]) (h₀ := X.base) I1.ok.mod.kin hm.kp hall (thn (hkw.run pos pins s1 σ H1 _ I1 q) fun ws s2 ⟨zs, H2, I2, rz, l1, q2⟩ => ⟨I2.kIn, ?_⟩) hpl
  rw [hks]
  exact run_fnN (us := [.ref a]) (vs := [.ref a]) F hr hb pass0 I2 (.cons rfl .nil) rz rfl l1 q2
end
/-! ### == by an own __eq__, whatever it answers -/
def rEqOwn (C : Addr) (sp : Sp) : R2 := fun x y H Q => ∃ a dx fs b, x = .ref a ∧ y = .ref b ∧ H a = some (.ins C dx fs) ∧ ((∃ dy gs, H b = some (.ins C dy gs)) ∨ ∃ xs, H b = some (.lst xs)) ∧ sp [x, y] H (fun v H' => (∃ k, v = .bl k) ∧ Q v H') E0
theorem op_eqOwn {X : Cx} {C : Addr} {ps : List Str} {lv : Nat} {sp : Sp} (M : Ch X.prog X.w X.K X.mg X.base C "__eq__" ps [] lv sp) (kl : PySem.W.subIn X.K (.type "list") (.ref C) = some false) (hr : Room lv X.A) : OpR X (compareOp .Eq) (rEqOwn C sp) := by
  obtain ⟨f, fd, ds, hm, F, hb, hd⟩ := M.ex
  cases hd
  intro pins s σ H x y v u Q I rx ry h
  obtain ⟨a, dx, fs, b, rfl, rfl, ha, hy, q⟩ := h
  cases rx; cases ry
  obtain ⟨mA, J, _⟩ := ins_get I.hok ha
  obtain ⟨od, J, _⟩ := J.look
  obtain ⟨m, hF⟩ := I.fr
  have run : wpAny (model X.prog X.w) X.A (call (.ref f) [.ref a, .ref b]) (PySem.W.CmpBack (EP X pins σ Q)) X.xe s := by
    have hl := F.len _ _ _ _ q
    have bb := hb s [.ref a, .ref b] I.kIn (by simpa using hl)
    refine wpAny_call (codeAny_mono (F.run X.A X.stack s H ⟨[.ref a, .ref b], []⟩ [.ref a, .ref b] [.ref a, .ref b] _ E0 hr I.env0 (by simpa using bb) (.cons rfl (.cons rfl .nil)) q) fun r s' z => ?_)
    rcases r with e | (_ | _ | _ | w)
    · exact pass0 pins σ H s e s' I z
    · exact False.elim z
    · exact False.elim z
    · exact False.elim z
    · obtain ⟨v, H', I', rv, ⟨k, rfl⟩, q'⟩ := I.after z
      obtain rfl : w = Value.bool k := rv
      exact ⟨.bl k, H', I', rfl, q'⟩
  show wpAny (model X.prog X.w) X.A (richCompare .Eq (.ref a) (.ref b)) (EP X pins σ Q) X.xe s
  rcases hy with ⟨dy, gs, hy⟩ | ⟨xs, hy⟩
  · obtain ⟨mB, J', _⟩ := ins_get I.hok hy
    obtain ⟨od', J', _⟩ := J'.look
    exact PySem.W.cmp_K (op := .Eq) (tb := .ref C) hr.units0 hF I.ok.mod.kin J J'.type (by simp [PySem.W.notFirst]) hm.at_ hm.fn run
  · obtain ⟨z, its, n, r, e⟩ := I.hok b _ hy
    exact PySem.W.cmp_K (op := .Eq) (tb := .type "list") hr.units0 hF I.ok.mod.kin J (fun A Q E s' k q => wpAny_typeOf (T := "list") ⟨_, k _ _ e, rfl⟩ q) (by simp [PySem.W.notFirst, kl]) hm.at_ hm.fn run
/-! ### xs[::n], n reckoned as -1 -/
theorem pe_rev {X : Cx} {e st : Expr} {te ts : TE} {p3 pos : Pos} (he : PE X e te) (hs : PE X st ts) (hN : ∀ σ H (Q : VK), Q (.int (-1)) H → ts σ H Q) :
    PE X (.Subscript e (.Slice none none (some st) p3) pos) (fun σ H Q => te σ H fun x H1 => ∃ a xs, x = .ref a ∧ SqL X.K H1 a xs ∧ ∀ p, H1 p = none → Q (.ref p) (upd H1 p (.lst xs.reverse))) := by
  refine ⟨fun pins s σ H Q I h => Subscript_ (thn (he.run pins s σ H _ I h) fun v s1 ⟨x, H1, I1, r1, a, xs, ex, hx, q⟩ => ?_)⟩
  subst ex; cases r1
  refine wpAny_Slice (thn (po_none.run pins s1 σ H1 (fun o H2 => o = none ∧ H2 = H1) I1 ⟨rfl, rfl⟩) fun vl s2 ⟨l, H2, I2, pl, el, e2⟩ => ?_)
  subst el e2
  refine thn (po_none.run pins s2 σ H2 (fun o H3 => o = none ∧ H3 = H2) I2 ⟨rfl, rfl⟩) fun vu s3 ⟨u, H3, I3, pu, eu, e3⟩ => ?_
  subst eu e3
  refine thn ((po_some hs).run pins s3 σ H3 (fun o H4 => o = some (-1) ∧ H4 = H3) I3 (hN σ H3 _ ⟨-1, rfl, rfl, rfl⟩)) fun vs s4 ⟨o, H4, I4, ps, eo, e4⟩ => ?_
  subst eo e4
  have I5 : Inv X pins σ H4 { s4 with heap := s4.heap.push { cls := .type "slice", data := .fields #[vl, vu, vs] } } := I4.kept (t' := s4.toks) fun b ob q => Heap.get?_push_of_some _ q
  obtain ⟨its, r, ht, hz⟩ := I5.list hx
  have hlen := r.length
  show wpAny (model X.prog X.w) X.A (subscriptTail e (.Slice none none (some st) p3) (.ref a) (.ref s4.heap.objs.size)) (EP X pins σ Q) X.xe { s4 with heap := s4.heap.push { cls := .type "slice", data := .fields #[vl, vu, vs] } }
  refine tail_any (ops := [.ref a, .ref s4.heap.objs.size]) ht.isList.typeIs (PySem.slot_list_getitem.lookup) ?_ (by with_unfolding_all rfl)
  refine wpAny_getItem_list_slice ht.isList (Heap.IsSliceOf.new _ vl vu vs) pl pu ps (by decide) ?_ (by rw [List.size_toArray]; omega)
  rw [PySem.W.krv_pick]
  exact ⟨.ref _, _, I5.laid (t' := s4.toks) (o := .lst xs.reverse) (fun b ob q => Heap.get?_push_of_some _ q) (Nat.le_refl _) ⟨by rw [List.length_reverse]; exact hz, _, 0, r.reverse, Heap.get?_push_size _ rfl⟩, rfl, q _ (I5.hok.fresh (Nat.le_refl _))⟩
/-- o.f within a comprehension -/
theorem pe_fldK {X : Cx} {e : Expr} {f : Str} {pos : Pos} {ta : TE} (K : PySem.W.Frag) (he : PE X e ta) (hb : attributeBase e f X.env (eval e X.env) = eval e X.env) (hK : X.K = K := by rfl) : PE X (.Attribute e f pos) (tFld K ta f) := by
  subst hK
  exact pe_fld he hb
end Ow

namespace Ow
open PySem PySem.Spec PyProof.Rows L2 Hb
/-- {k: v}, k a tuple of ints and texts -/
def tDisp1 (tk tv : TE) : TE := fun σ H Q => ∀ p, H p = none → tk σ (upd H p (.dT [])) fun x H1 => tv σ H1 fun y H2 => H2 p = some (.dT []) ∧ ∃ (k : List Key) (b : Addr), x = .ref b ∧ H2 b = some (.tup (k.map kV)) ∧ Q (.ref p) (upd H2 p (.dT [(k, y)]))
theorem pe_disp1T {X : Cx} {k v : Expr} {tk tv : TE} {pos : Pos} (hu : X.A.units + 1 < cLine) (hk : PE X k tk) (hv : PE X v tv) : PE X (.Dict [some k] [v] pos) (tDisp1 tk tv) := by
  refine ⟨fun pins s σ H Q I q => ?_⟩
  have hn := I.hok.fresh (Nat.le_refl s.heap.objs.size)
  have I1 := I.laid (a := s.heap.objs.size) (o := .dT []) (h' := s.heap.push { cls := .type "dict", data := .dict #[] }) (t' := s.toks) (fun _ _ q => Heap.get?_push_of_some _ q) (Nat.le_refl _) (dt_empty s.heap I.big)
  have pr := pairTrees_length [some k] [v] X.env pos rfl rfl
  rw [arm_eval_Dict, zip_pairTrees [some k] [v] X.env pos rfl rfl, dictDisplay_pairs _ (fun z => by rw [z] at pr; cases pr) (by rw [pr]; exact (by decide : (1 : Nat) < 17))]
  refine wpAny_bind (wpAny_standAt (wpAny_bind (wpAny_subDictH (knd := tupleKind (mixKind X.prog X.w)) (Q := fun d s' => wpAny (model X.prog X.w) X.A (pure (Value.ref d)) (EP X pins σ Q) X.xe s') (show X.A.units < cLine by omega) (by rw [pr]; exact (by decide : (1 : Nat) ≤ 15)) ?_)))
  refine thn ((pps_cons hk hv pps_nil).run pins _ σ _ (fun ps H2 => match ps with | [(x, y)] => H2 s.heap.objs.size = some (.dT []) ∧ ∃ (k : List Key) (b : Addr), x = .ref b ∧ H2 b = some (.tup (k.map kV)) ∧ Q (.ref s.heap.objs.size) (upd H2 s.heap.objs.size (.dT [(k, y)])) | _ => False) I1 (q _ hn)) fun ws s2 ⟨ps, H2, I2, rel, q1⟩ => ?_
  match ps, q1 with
  | [(x, y)], q1 => ?_
  obtain ⟨e, kk, b, ex, eb, q2⟩ := q1
  subst ex
  cases rel with
  | @cons _ bb _ _ h t =>
    obtain ⟨b1, b2⟩ := bb
    cases t
    obtain ⟨r1, r2⟩ := h
    cases (show b1 = Value.ref b from r1)
    obtain ⟨z, hd, xs, rel, dd⟩ := dt_of I2.hok e
    cases rel
    refine ⟨[(kk, b, b2)], ⟨rfl, rfl, key_of I2.hok eb, trivial⟩, dd, fun h' tk' dd' hs => wpAny_pure ⟨.ref s.heap.objs.size, _, ?_, rfl, q2⟩⟩
    obtain ⟨qo, es, ep, hq, h2, h3, h4, _, h5⟩ := dd'
    refine d_write I2 (by rw [e]; exact True.intro) hs ⟨qo, hq⟩ ⟨by show 1 ≤ sizeLine; decide, hd, [(kk, b, b2)], .cons ⟨rfl, ?_, r2⟩ .nil, qo, es, ep, hq, h2, h3, h4, h5⟩
    rw [upd_ne (ne_of eb e (fun z => nomatch z))]
    exact eb
end Ow

/-! enumerate of a tuple -/
namespace En
open PySem PySem.Spec PyProof.Rows L2
set_option maxHeartbeats 1000000 in
theorem new_one {v : Value} {it : Obj} {Z : Heap → Prop} (B : Begins v it Z) : Meets (Builtin.«enumerate.__new__» ⟨[.type "enumerate", v], []⟩) (fun _ R z => Z z.heap ∧
    R (.ok (.ret (.ref (z.heap.push it).objs.size))) { z with heap := (z.heap.push it).push { cls := .type "enumerate", data := .fields #[.none, .bool false, .ref z.heap.objs.size, rawInt 0, .none, .none] } }) :=
  .of_wp fun prog w A R z hz => by
    obtain ⟨hp, gs, dr, nt, oss⟩ := z
    obtain ⟨hZ, hR⟩ := hz
    have isub := sub_enumerate
    have begun : ∀ {A' : Around} {E : Value → Shared → Prop} {Q : Value → Shared → Prop}, Q (.ref hp.objs.size) ⟨hp.push it, gs, dr, nt, oss⟩ → wpAny (model prog w) A' (pyIter v) Q E ⟨hp, gs, dr, nt, oss⟩ :=
      fun qq => B.iter prog w _ _ ⟨hp, gs, dr, nt, oss⟩ _ hZ qq
    wp_walk using begun
    refine wpAny_stack_any fun _ => wpAny_pure ?_
    split
    · rename_i cl _ _ _ _ _
      cases (cl == Value.type "enumerate") <;> (wp_walk using begun; exact ⟨_, rfl, hR⟩)
    · wp_walk using begun
      exact ⟨_, rfl, hR⟩
section
variable {prog : Program} {w : World} {A : Around} {E : Value → Shared → Prop} {s : Shared}
theorem call_one {v : Value} {it : Obj} {Z : Heap → Prop} {Q : Value → Shared → Prop} (B : Begins v it Z) (hZ : Z s.heap)
    (fin : ∀ h', IsEnum h' (s.heap.objs.size + 1) s.heap.objs.size 0 .none → h'.get? s.heap.objs.size = some it → (∀ b o, s.heap.get? b = some o → h'.get? b = some o) → Q (.ref (s.heap.objs.size + 1)) { s with heap := h' }) :
    wpAny (model prog w) A (call (.type "enumerate") [v]) Q E s := by
  refine callType_new F.called_enumerate (by decide) (F.typeCall_enumerate_1 v) (F.newCall_enumerate_1 v) (fun self => F.args_object_init_2 self v) F.entry_enumerate_new (new_one B) ⟨hZ, ?_⟩
  have size1 : (s.heap.push it).objs.size = s.heap.objs.size + 1 := Heap.size_push ..
  show _ ∧ _
  rw [size1]
  have at1 : IsEnum ((s.heap.push it).push { cls := .type "enumerate", data := .fields #[.none, .bool false, .ref s.heap.objs.size, rawInt 0, .none, .none] }) (s.heap.objs.size + 1) s.heap.objs.size 0 .none := by
    have z := Heap.get?_push_size (s.heap.push it) (o := { cls := .type "enumerate", data := .fields #[.none, .bool false, .ref s.heap.objs.size, rawInt 0, .none, .none] }) rfl
    rw [size1] at z
    exact z
  exact ⟨⟨_, at1, rfl⟩, fin _ at1 (Heap.get?_push_of_some _ (Heap.get?_push_size _ B.free)) fun b o y => Heap.get?_push_of_some _ (Heap.get?_push_of_some _ y)⟩
end
def IteT (K : PySem.W.Frag) (a : Addr) : It where
  go i H := ∃ (xs : List V) (x : V), SqT K H a xs ∧ xs[i]? = some x
  yld i H v H' := ∃ T x, v = .ref T ∧ H T = none ∧ H' = upd H T (.tup [.int (i : Nat), x]) ∧ ∀ xs, SqT K H a xs → xs[i]? = some x
  stop i H := ∃ xs : List V, SqT K H a xs ∧ xs.length ≤ i
theorem tup_ne {h : Heap} {a it : Addr} {k : Nat} {items : Array Value} (h1 : h.IsTuple a items) (h2 : h.IsTupleIter it a k) : a ≠ it := by
  intro e
  obtain ⟨o, ho, hc, _⟩ := h1
  obtain ⟨o2, ho2, hc2, _⟩ := h2
  rw [← e, ho] at ho2
  cases ho2
  exact absurd (Value.type.inj (hc.symm.trans hc2)) (by decide)
theorem turn_enumT {P : Program} {w : World} {K : PySem.W.Frag} {elts : List Expr} {kk : Nat} {tpos : Pos} (a e it : Addr) :
    Turn P w K (.Tuple elts kk tpos) (IteT K a) [e, it] e (fun i h => (∃ old, IsEnum h e it ((i : Nat) : Int) old) ∧ h.IsTupleIter it a i ∧ e ≠ it) where
  mem := by simp
  obj i h st b hb := by
    obtain ⟨⟨old, hen⟩, ⟨o, ho, _, hd⟩, _⟩ := st
    rcases (show b = e ∨ b = it by simpa using hb) with z | z
    · exact ⟨_, by rw [z]; exact hen, fun v q => by cases (show Data.fields _ = Data.cell v from q)⟩
    · exact ⟨o, by rw [z]; exact ho, fun v q => by rw [hd] at q; cases q⟩
  keep i h h' st k := by
    obtain ⟨⟨old, hen⟩, hti, ne⟩ := st
    exact ⟨⟨old, k e (by simp) _ hen⟩, hti.at fun o q => k it (by simp) o q, ne⟩
  item := by
    intro X hP hw hK hc i pins s σ H E I hf st hg
    subst hP hw hK
    obtain ⟨⟨old, hen⟩, hti, ne⟩ := st
    obtain ⟨xs, x, hq, hx⟩ := hg
    obtain ⟨its, rel, pt, _⟩ := I.tuple hq
    obtain ⟨u, hu, ru⟩ := rel.get hx
    have lt1 : e < s.heap.objs.size := Heap.lt_size hen
    have lt2 : it < s.heap.objs.size := by obtain ⟨_, y, _⟩ := hti; exact Heap.lt_size y
    have ane := tup_ne pt hti
    have elt : ∀ b ∈ [e, it], b < s.heap.objs.size := fun b hb => by
      rcases (show b = e ∨ b = it by simpa using hb) with z | z <;> rw [z] <;> assumption
    have ena : e ≠ a := fun z => by
      obtain ⟨o, ho, hcl, _⟩ := pt
      have q : s.heap.get? e = _ := hen
      rw [z, ho] at q
      cases q
      exact absurd (Value.type.inj hcl) (by decide)
    have hh : X.A.in1.handled = none := I.ok.hd hc
    refine wpAny_pyNext_enum_itemD (Draws.tuple hh it a ane its.toArray) hen ⟨hti, pt⟩ (show i < its.toArray.size by rw [List.size_toArray]; exact (List.getElem?_eq_some_iff.mp hu).1) ne (by simp [ne, ena]) fun y h' tk hy out st' hT hsz hk => ?_
    have hyu : y = u := by
      have : its[i]? = some y := by simpa using hy
      rw [hu] at this
      exact (Option.some.inj this).symm
    subst hyu
    refine ⟨_, rfl, wpAny_letOwnedTupleGo_enum (s := { s with heap := h', toks := tk + 1 }) out fun h2 hen2 sb => ?_⟩
    have t2 : h2.get? s.heap.objs.size = some { cls := .type "tuple", data := .seq #[.int i tk, y] } := (sb.2 _ (Nat.ne_of_gt lt1)).trans hT
    have newT : ObjOk X.prog X.w (upd H s.heap.objs.size (.tup [.int (i : Nat), x])) h2 s.heap.objs.size (.tup [.int (i : Nat), x]) :=
      ⟨by show 2 ≤ sizeLine; decide, [.int i tk, y], .cons ⟨_, rfl⟩ (.cons ru .nil), ⟨_, t2, rfl, _, rfl⟩⟩
    have J : Inv X pins σ (upd H s.heap.objs.size (.tup [.int (i : Nat), x])) { s with heap := h2, toks := tk + 1 } :=
      I.turnedNew (t' := tk + 1) (ch := [e, it]) (fun b ob hb q => (sb.2 b (fun z => hb (by simp [z]))).trans (hk b ob (fun z => hb (by simp [z])) (fun z => hb (by simp [z])) q)) hf (Nat.le_refl _) newT
    refine ⟨.ref s.heap.objs.size, _, J, rfl, ⟨_, x, rfl, I.hok.fresh (Nat.le_refl _), rfl, fun ys hys => by rw [I.tuple_inj hys hq]; exact hx⟩, ⟨⟨y, ?_⟩, st'.1.at fun o q => (sb.2 it (Ne.symm ne)).trans q, ne⟩, fun b hb => ?_⟩
    · rw [show ((i + 1 : Nat) : Int) = (i : Int) + 1 by omega]
      exact hen2
    · rw [upd_ne (Nat.ne_of_lt (elt b hb))]
      exact (hf b hb).1
  done := by
    intro X hP hw hK hc i pins s σ H E I hf st hg
    subst hP hw hK
    obtain ⟨⟨old, hen⟩, hti, ne⟩ := st
    obtain ⟨xs, hq, hx⟩ := hg
    obtain ⟨its, rel, pt, _⟩ := I.tuple hq
    obtain ⟨g0, g1, g2, g3, g4, g5⟩ := hf it (by simp)
    have hl := rel.length
    have hh : X.A.in1.handled = none := I.ok.hd hc
    have T : Draws X.prog X.w X.A.in1 it [it, a] i (fun i v => its.toArray[i]? = some v) (fun k h => k = i ∧ h.IsTupleIter it a i ∧ h.IsTuple a its.toArray) := {
      live := fun _ _ sj => let ⟨o, ho, _⟩ := sj.2.1; ⟨o, ho⟩
      frame := fun _ _ _ sj k => ⟨sj.1, sj.2.1.at fun o q => k it (by simp) o q, sj.2.2.at fun o q => k a (by simp) o q⟩
      item := fun j z Q' E' hj sj hQ => absurd sj.1 (Nat.ne_of_lt hj)
      done := fun z Q' E' sj hE => wpAny_nextOf_tuple_end hh sj.2.1 sj.2.2 (by simp; omega) hE }
    exact wpAny_pyNext_enum_endD T hen ⟨rfl, hti, pt⟩ fun h' eb => ⟨rfl, I.turned (t' := s.toks) (fun b o hb q => eb b o hb q) g0 g1 g3 g4 g5⟩
  self A i s Q E st h := by
    obtain ⟨⟨_, hen⟩, _⟩ := st
    exact wpAny_pyIter_enum hen h
def iEnumT (K : PySem.W.Frag) (ta : TA) : TI := fun σ H R => ta σ H fun vs H1 => ∃ a, vs = [.ref a] ∧ (∃ xs, SqT K H1 a xs) ∧ R (IteT K a) H1
theorem pi_enumT {X : Cx} {e : Expr} {ta : TA} {p pos tpos : Pos} {elts : List Expr} {kk : Nat} (hg : Gl X "enumerate") (hm : X.mg "enumerate" = none) (ha : PA X [e] ta) (hs : starEach [e] X.env = [(false, eval e X.env)] := by rfl) :
    PI X (.Tuple elts kk tpos) (.Call (.Name "enumerate" p) [e] [] pos) (iEnumT X.K ta) := by
  refine ⟨fun pins s σ H R I h => Call_ (ld_blt I hg hm boot_enumerate (PyProof.Rows.callWith_type1 (thn (ha.run pos pins s σ H _ I h) fun us s1 gone => ?_) hs rfl))⟩
  obtain ⟨vs, H1, I1, rel, a, rfl, ⟨xs, hq⟩, qq⟩ := gone
  match us, rel with
  | [_], .cons r .nil =>
    cases r
    obtain ⟨its, _, pt, _⟩ := I1.tuple hq
    refine call_one (begins_tuple a its.toArray) pt fun h' hen hit hk => wpAny_pyIter_enum hen ?_
    have J : Inv X pins σ H1 { s1 with heap := h' } := I1.kept (t' := s1.toks) hk
    refine ⟨s1.heap.objs.size + 1, [s1.heap.objs.size + 1, s1.heap.objs.size], _, _, H1, rfl, J, turn_enumT a (s1.heap.objs.size + 1) s1.heap.objs.size, ⟨⟨.none, hen⟩, ⟨_, hit, rfl, rfl⟩, Nat.succ_ne_self _⟩, fun b hb => ?_, qq⟩
    have le : s1.heap.objs.size ≤ b := by
      rcases (show b = s1.heap.objs.size + 1 ∨ b = s1.heap.objs.size by simpa using hb) with z | z
      · rw [z]; exact Nat.le_succ _
      · rw [z]; exact Nat.le_refl _
    exact I1.fpOk le (I1.hok.fresh le)
/-- for i, x in enumerate(t) -/
theorem for_enumT {K : PySem.W.Frag} {a : Addr} {xs : List V} {g : TG} {tb : TS} {D : Ends} {σ : L2.St} {H : Hp} (Pv : Nat → L2.St → Hp → Prop) (h0 : Pv 0 σ H) (hl : ∀ i σ H, Pv i σ H → SqT K H a xs)
    (hs : ∀ (i : Nat) (x : V) (T : Addr) (σ : L2.St) (H : Hp), xs[i]? = some x → Pv i σ H → H T = none → g (.ref T) σ (upd H T (.tup [.int (i : Nat), x])) fun σ2 H2 => tb { D with nx := Pv (i + 1), ct := Pv (i + 1), bk := D.nx } σ2 H2)
    (hd : ∀ σ H, Pv xs.length σ H → D.nx σ H) :
    ∃ W : Nat → Nat → L2.St → Hp → Prop, (∃ m, W 0 m σ H) ∧ ∀ i m σ H, W i m σ H →
      ((IteT K a).stop i H ∧ D.nx σ H) ∨ ((IteT K a).go i H ∧ ∃ N : L2.St → Hp → Prop, (∀ σ' H', N σ' H' → ∃ m', m' < m ∧ W (i + 1) m' σ' H') ∧ ∀ v H', (IteT K a).yld i H v H' → g v σ H' fun σ2 H2 => tb { D with nx := N, ct := N, bk := D.nx } σ2 H2) := by
  refine ⟨fun i m σ H => m + i = xs.length ∧ Pv i σ H, ⟨xs.length, rfl, h0⟩, fun i m σ H ⟨e, p⟩ => ?_⟩
  have q := hl i σ H p
  cases m with
  | zero => exact .inl ⟨⟨xs, q, by omega⟩, hd σ H (by rw [show xs.length = i by omega]; exact p)⟩
  | succ m =>
    have hlt : i < xs.length := by omega
    refine .inr ⟨⟨xs, xs[i], q, List.getElem?_eq_getElem hlt⟩, Pv (i + 1), fun σ' H' p' => ⟨m, Nat.lt_succ_self m, by omega, p'⟩, fun v H' y => ?_⟩
    obtain ⟨T, x, rfl, hT, rfl, hx⟩ := y
    exact hs i x T σ H (hx xs q) p hT
end En

/-! walks over a list or a tuple alike; comprehensions that keep some items and turn them -/
namespace Sq
open PySem PySem.Spec PyProof.Rows L2 Hb St
/-- what a program changes in place -/
def Mut (o : HO) : Prop := (∃ ys, o = .lst ys) ∨ ∃ k, o = .dT k
/-- all but the lists and dicts is as it was -/
def Fix (H H' : Hp) : Prop := ∀ b o, H b = some o → ¬ Mut o → H' b = some o
theorem Fix.of {H H' : Hp} (s : Same H H') : Fix H H' := fun b o e _ => s b o e
theorem Fix.refl (H : Hp) : Fix H H := fun _ _ e _ => e
theorem Fix.trans {H H1 H2 : Hp} (a : Fix H H1) (b : Fix H1 H2) : Fix H H2 := fun c o e n => b c o (a c o e n) n
theorem Fix.lst {H : Hp} {p : Addr} {xs : List V} {o : HO} (e : H p = some (.lst xs)) : Fix H (upd H p o) := fun b u eb n => by
  rw [upd_ne fun z => n (.inl ⟨xs, by rw [z, e] at eb; exact (Option.some.inj eb).symm⟩)]; exact eb
theorem Fix.dT {H : Hp} {p : Addr} {k : List (List Key × V)} {o : HO} (e : H p = some (.dT k)) : Fix H (upd H p o) := fun b u eb n => by
  rw [upd_ne fun z => n (.inr ⟨k, by rw [z, e] at eb; exact (Option.some.inj eb).symm⟩)]; exact eb
theorem Fix.new {H : Hp} {p : Addr} {o : HO} (e : H p = none) : Fix H (upd H p o) := Fix.of (same_new e o)
theorem Fix.kept {H H' : Hp} {p : Addr} {xs : List V} (e : H p = some (.lst xs)) (k : Kept p H H') : Fix H H' := fun b o eb n => k b o eb fun z => n (.inl ⟨xs, by rw [z, e] at eb; exact (Option.some.inj eb).symm⟩)
theorem tupFix {K : PySem.W.Frag} {H H' : Hp} {a : Addr} {xs : List V} (f : Fix H H') (h : SqT K H a xs) : SqT K H' a xs := by
  rcases h with (e | ⟨o, e⟩) | r
  · exact .inl (.inl (f _ _ e (by rintro (⟨_, z⟩ | ⟨_, z⟩) <;> cases z)))
  · exact .inl (.inr ⟨o, f _ _ e (by rintro (⟨_, z⟩ | ⟨_, z⟩) <;> cases z)⟩)
  · exact .inr r
theorem lstSame {K : PySem.W.Frag} {H H' : Hp} {a : Addr} {xs : List V} (f : Same H H') (h : SqL K H a xs) : SqL K H' a xs := by
  rcases h with (e | ⟨o, e⟩) | r
  · exact .inl (.inl (f _ _ e))
  · exact .inl (.inr ⟨o, f _ _ e⟩)
  · exact .inr r
theorem sqxSame {K : PySem.W.Frag} {H H' : Hp} {a : Addr} {xs : List V} (s : Same H H') (h : SqX K H a xs) : SqX K H' a xs := h.imp (lstSame s) (tupFix (Fix.of s))
theorem SqX.lst {K : PySem.W.Frag} {H : Hp} {a : Addr} {xs : List V} (e : H a = some (.lst xs)) : SqX K H a xs := .inl (SqL.of e)
theorem SqX.tup {K : PySem.W.Frag} {H : Hp} {a : Addr} {xs : List V} (e : H a = some (.tup xs)) : SqX K H a xs := .inr (SqT.of e)
/-- item by item -/
inductive All2 {α β : Type} (R : α → β → Prop) : List α → List β → Prop where
  | nil : All2 R [] []
  | cons {a b as bs} : R a b → All2 R as bs → All2 R (a :: as) (b :: bs)
namespace All2
variable {α β : Type} {R S : α → β → Prop}
theorem len : ∀ {as : List α} {bs : List β}, All2 R as bs → as.length = bs.length
  | _, _, .nil => rfl
  | _, _, .cons _ t => congrArg (· + 1) t.len
theorem imp (f : ∀ a b, R a b → S a b) : ∀ {as : List α} {bs : List β}, All2 R as bs → All2 S as bs
  | _, _, .nil => .nil
  | _, _, .cons h t => .cons (f _ _ h) (imp f t)
theorem app : ∀ {as as' : List α} {bs bs' : List β}, All2 R as bs → All2 R as' bs' → All2 R (as ++ as') (bs ++ bs')
  | _, _, _, _, .nil, h => h
  | _, _, _, _, .cons h t, k => .cons h (app t k)
theorem get : ∀ {as : List α} {bs : List β}, All2 R as bs → ∀ {i : Nat} {a : α}, as[i]? = some a → ∃ b, bs[i]? = some b ∧ R a b
  | _, _, .cons h t, 0, a, e => ⟨_, rfl, by cases e; exact h⟩
  | _, _, .cons h t, i + 1, a, e => t.get (i := i) e
theorem getR : ∀ {as : List α} {bs : List β}, All2 R as bs → ∀ {i : Nat} {b : β}, bs[i]? = some b → ∃ a, as[i]? = some a ∧ R a b
  | _, _, .cons h t, 0, a, e => ⟨_, rfl, by cases e; exact h⟩
  | _, _, .cons h t, i + 1, a, e => t.getR (i := i) e
theorem map_eq {f : β → α} (h : ∀ a b, R a b → a = f b) : ∀ {as : List α} {bs : List β}, All2 R as bs → as = bs.map f
  | _, _, .nil => rfl
  | _, _, .cons r t => by rw [List.map_cons, h _ _ r, map_eq h t]
theorem of_map {f : β → α} (h : ∀ b, R (f b) b) : ∀ bs : List β, All2 R (bs.map f) bs
  | [] => .nil
  | b :: bs => .cons (h b) (of_map h bs)
theorem drop : ∀ {as : List α} {bs : List β} (n : Nat), All2 R as bs → All2 R (as.drop n) (bs.drop n)
  | _, _, 0, h => h
  | _, _, n + 1, .nil => .nil
  | _, _, n + 1, .cons _ t => drop n t
theorem take : ∀ {as : List α} {bs : List β} (n : Nat), All2 R as bs → All2 R (as.take n) (bs.take n)
  | _, _, 0, h => .nil
  | _, _, n + 1, .nil => .nil
  | _, _, n + 1, .cons h t => .cons h (take n t)
end All2
/-- a walk J over the items xs of the object at a; S: it stands -/
structure Wk (J : It) (a : Addr) (S : Hp → Prop) (xs : List V) : Prop where
  go : ∀ i H, i < xs.length → S H → J.go i H
  stop : ∀ H, S H → J.stop xs.length H
  yld : ∀ i H v H', i < xs.length → S H → J.yld i H v H' → H' = H ∧ xs[i]? = some v
  keep : ∀ {H H' : Hp}, (∀ o, H a = some o → H' a = some o) → S H → S H'
theorem wk_list {K : PySem.W.Frag} {a : Addr} {xs : List V} : Wk (Itl K a) a (fun H => SqL K H a xs) xs where
  go := fun i H hi s => ⟨xs, xs[i], s, List.getElem?_eq_getElem hi⟩
  stop := fun H s => ⟨xs, s, Nat.le_refl _⟩
  yld := fun i H v H' _ s y => ⟨y.1, y.2 xs s⟩
  keep := fun k s => by
    rcases s with (e | ⟨o, e⟩) | r
    · exact .inl (.inl (k _ e))
    · exact .inl (.inr ⟨o, k _ e⟩)
    · exact .inr r
theorem wk_tup {K : PySem.W.Frag} {a : Addr} {xs : List V} : Wk (Itt K a) a (fun H => SqT K H a xs) xs where
  go := fun i H hi s => ⟨xs, xs[i], s, List.getElem?_eq_getElem hi⟩
  stop := fun H s => ⟨xs, s, Nat.le_refl _⟩
  yld := fun i H v H' _ s y => ⟨y.1, y.2 xs s⟩
  keep := fun k s => by
    rcases s with (e | ⟨o, e⟩) | r
    · exact .inl (.inl (k _ e))
    · exact .inl (.inr ⟨o, k _ e⟩)
    · exact .inr r
def iSeq (K : PySem.W.Frag) (tl : TE) : TI := fun σ H R => tl σ H fun x H1 => ∃ a xs, x = .ref a ∧ SqX K H1 a xs ∧ ∀ (J : It) (S : Hp → Prop), Wk J a S xs → S H1 → R J H1
theorem pi_seq {X : Cx} {tg l : Expr} {tl : TE} (hl : PE X l tl) : PI X tg l (iSeq X.K tl) := by
  refine ⟨fun pins s σ H R I h => ?_⟩
  have both : PI X tg l (fun σ H R => iList X.K tl σ H R ∨ iTup X.K tl σ H R) := ⟨fun pins s σ H R I h => h.elim ((pi_list hl).run pins s σ H R I) ((pi_tup hl).run pins s σ H R I)⟩
  refine thn (hl.run pins s σ H _ I h) fun v s1 ⟨x, H1, I1, r1, a, xs, ex, hx, q⟩ => ?_
  subst ex; cases r1
  rcases hx with hx | hx
  · obtain ⟨its, rv, p, hz⟩ := I1.list hx
    refine wpAny_pyIter_list p.isList ⟨s1.heap.objs.size, [s1.heap.objs.size], _, _, H1, rfl, I1.kept (t' := s1.toks) fun b o e => Heap.get?_push_of_some _ e, turn_list a _, ⟨_, Heap.get?_push_size _ rfl, rfl, rfl⟩, fun b hb => ?_, q _ _ wk_list hx⟩
    obtain rfl : b = s1.heap.objs.size := by simpa using hb
    exact I1.fpOk (Nat.le_refl _) (I1.hok.fresh (Nat.le_refl _))
  · obtain ⟨its, rv, p, hz⟩ := I1.tuple hx
    refine wpAny_pyIter_tuple (show s1.heap.IsTuple a its.toArray from p) ⟨s1.heap.objs.size, [s1.heap.objs.size], _, _, H1, rfl, I1.kept (t' := s1.toks) fun b o e => Heap.get?_push_of_some _ e, turn_tuple a _, ⟨_, Heap.get?_push_size _ rfl, rfl, rfl⟩, fun b hb => ?_, q _ _ wk_tup hx⟩
    obtain rfl : b = s1.heap.objs.size := by simpa using hb
    exact I1.fpOk (Nat.le_refl _) (I1.hok.fresh (Nat.le_refl _))
/-! ### comprehensions -/
section
variable {α : Type}
/-- where a comprehension stands: H1 as it began, D its list, ds its items' data -/
structure MF (H1 : Hp) (D : Addr) (ds : List α) (keep : α → Bool) (Rel : Hp → V → α → Prop) (i : Nat) (H : Hp) : Prop where
  same : Same H1 H
  acc : ∃ ys, H D = some (.lst ys) ∧ All2 (Rel H) ys ((ds.take i).filter keep)
variable {H1 : Hp} {D : Addr} {ds : List α} {keep : α → Bool} {Rel : Hp → V → α → Prop} {i : Nat} {H : Hp}
theorem mf_yes (m : MF H1 D ds keep Rel i H) {H' : Hp} {d : α} {y : V} (hd : H1 D = none) (mono : ∀ H H' y d, Fix H H' → Rel H y d → Rel H' y d) (hi : ds[i]? = some d) (hl : ds.length ≤ 100000) (s : Same H H') (k : keep d = true) (r : Rel H' y d) :
    ∃ acc, H' D = some (.lst acc) ∧ acc.length < sizeLine ∧ MF H1 D ds keep Rel (i + 1) (upd H' D (.lst (acc ++ [y]))) := by
  obtain ⟨s1, ys, e, a⟩ := m
  have e' := s _ _ e
  have fx : Fix H' (upd H' D (.lst (ys ++ [y]))) := Fix.lst e'
  refine ⟨ys, e', ?_, fun b o eb => ?_, ys ++ [y], upd_same, ?_⟩
  · have := a.len
    have h2 := List.length_filter_le keep (ds.take i)
    have h3 : (ds.take i).length ≤ ds.length := by rw [List.length_take]; exact Nat.min_le_right _ _
    rw [sizeLine_eq]; omega
  · rw [upd_ne (ne_of_none eb hd)]; exact s b o (s1 b o eb)
  · rw [List.take_add_one, hi, List.filter_append]
    show All2 _ _ (_ ++ [d].filter keep)
    rw [List.filter_cons_of_pos k]
    exact (a.imp fun _ _ q => mono _ _ _ _ ((Fix.of s).trans fx) q).app (.cons (mono _ _ _ _ fx r) .nil)
theorem mf_no (m : MF H1 D ds keep Rel i H) {H' : Hp} {d : α} (mono : ∀ H H' y d, Fix H H' → Rel H y d → Rel H' y d) (hi : ds[i]? = some d) (s : Same H H') (k : keep d = false) : MF H1 D ds keep Rel (i + 1) H' := by
  obtain ⟨s1, ys, e, a⟩ := m
  refine ⟨s1.trans s, ys, s _ _ e, ?_⟩
  rw [List.take_add_one, hi, List.filter_append]
  show All2 _ _ (_ ++ [d].filter keep)
  rw [List.filter_cons_of_neg (by rw [k]; exact Bool.false_ne_true), List.filter_nil, List.append_nil]
  exact a.imp fun _ _ q => mono _ _ _ _ (Fix.of s) q
/-- a comprehension over the walk J -/
theorem lc_mf {J : It} {a : Addr} {S : Hp → Prop} {xs : List V} {ds : List α} (W : Wk J a S xs) (keep : α → Bool) (Rel : Hp → V → α → Prop) {g : TG} {tt : TT} {te : TE} {vs : List Nat} {σ : L2.St} {H1 : Hp} {D : Addr} {Qd : Hp → Prop} (hS : S H1) (hD : H1 D = none)
    (hlen : xs.length = ds.length)
    (hs : ∀ i x d H, xs[i]? = some x → ds[i]? = some d → Same H1 H → MF H1 D ds keep Rel i H → g x (wipe σ vs) H fun σ2 H2 => wipe σ2 vs = wipe σ vs ∧ tt σ2 H2 fun b H3 =>
      if b = true then te σ2 H3 fun y H4 => ∃ acc, H4 D = some (.lst acc) ∧ acc.length < sizeLine ∧ MF H1 D ds keep Rel (i + 1) (upd H4 D (.lst (acc ++ [y]))) else MF H1 D ds keep Rel (i + 1) H3)
    (hd : ∀ H ys, Same H1 H → H D = some (.lst ys) → All2 (Rel H) ys (ds.filter keep) → Qd H) :
    ∃ W : Nat → Nat → Hp → Prop, (∃ m, W 0 m (upd H1 D (.lst []))) ∧ ∀ i m H, W i m H →
      (J.stop i H ∧ Qd H) ∨ (J.go i H ∧ ∃ Nx : Hp → Prop, (∀ H', Nx H' → ∃ m', m' < m ∧ W (i + 1) m' H') ∧ ∀ v H', J.yld i H v H' → g v (wipe σ vs) H' fun σ2 H2 => wipe σ2 vs = wipe σ vs ∧ tt σ2 H2 fun b H3 =>
        if b = true then te σ2 H3 fun y H4 => ∃ acc, H4 D = some (.lst acc) ∧ acc.length < sizeLine ∧ Nx (upd H4 D (.lst (acc ++ [y]))) else Nx H3) := by
  have stand : ∀ {H}, Same H1 H → S H := fun {H} s => W.keep (fun o e => s _ _ e) hS
  refine ⟨fun i m H => m + i = xs.length ∧ MF H1 D ds keep Rel i H, ⟨xs.length, rfl, fun b o e => by rw [upd_ne (ne_of_none e hD)]; exact e, [], upd_same, .nil⟩, fun i m H ⟨e, p⟩ => ?_⟩
  cases m with
  | zero =>
    obtain rfl : i = xs.length := by omega
    obtain ⟨ys, ey, al⟩ := p.acc
    refine .inl ⟨W.stop H (stand p.same), hd H ys p.same ey ?_⟩
    rw [List.take_of_length_le (by omega)] at al
    exact al
  | succ m =>
    have hi : i < xs.length := by omega
    refine .inr ⟨W.go i H hi (stand p.same), MF H1 D ds keep Rel (i + 1), fun H' p' => ⟨m, Nat.lt_succ_self m, by omega, p'⟩, fun v H' y => ?_⟩
    obtain ⟨rfl, ev⟩ := W.yld i H v H' hi (stand p.same) y
    exact hs i v ds[i] H' ev (List.getElem?_eq_getElem (by omega)) p.same p
end
end Sq
namespace Sq
open PySem PySem.Spec PyProof.Rows L2 Hb St
theorem wk_range {lo : Int} {n : Nat} {a : Addr} : Wk (Itr lo n) a (fun _ => True) ((List.range n).map fun k => V.int (lo + (k : Nat))) where
  go := fun i H hi _ => by
    show i < n
    simpa using hi
  stop := fun H _ => by show n ≤ _; simp
  yld := fun i H v H' hi _ y => by
    obtain ⟨e, ev⟩ := (show H' = H ∧ v = .int (lo + (i : Nat)) from y)
    have hn : i < n := by simpa using hi
    exact ⟨e, by rw [ev, List.getElem?_map, List.getElem?_range hn] <;> rfl⟩
  keep := fun _ _ => trivial
/-- a for over the walk J -/
theorem for_sq {J : It} {a : Addr} {S : Hp → Prop} {xs : List V} (W : Wk J a S xs) {g : TG} {tb : TS} {D : Ends} {σ : L2.St} {H : Hp} (Pv : Nat → L2.St → Hp → Prop) (h0 : Pv 0 σ H) (hk : ∀ i σ H, Pv i σ H → S H)
    (hs : ∀ i σ H x, xs[i]? = some x → Pv i σ H → g x σ H fun σ2 H2 => tb { D with nx := Pv (i + 1), ct := Pv (i + 1), bk := D.nx } σ2 H2) (hd : ∀ σ H, Pv xs.length σ H → D.nx σ H) :
    ∃ W : Nat → Nat → L2.St → Hp → Prop, (∃ m, W 0 m σ H) ∧ ∀ i m σ H, W i m σ H →
      (J.stop i H ∧ D.nx σ H) ∨ (J.go i H ∧ ∃ N : L2.St → Hp → Prop, (∀ σ' H', N σ' H' → ∃ m', m' < m ∧ W (i + 1) m' σ' H') ∧ ∀ v H', J.yld i H v H' → g v σ H' fun σ2 H2 => tb { D with nx := N, ct := N, bk := D.nx } σ2 H2) := by
  refine ⟨fun i m σ H => m + i = xs.length ∧ Pv i σ H, ⟨xs.length, rfl, h0⟩, fun i m σ H ⟨e, p⟩ => ?_⟩
  cases m with
  | zero =>
    obtain rfl : i = xs.length := by omega
    exact .inl ⟨W.stop H (hk _ _ _ p), hd σ H p⟩
  | succ m =>
    refine .inr ⟨W.go i H (by omega) (hk _ _ _ p), Pv (i + 1), fun σ' H' p' => ⟨m, Nat.lt_succ_self m, by omega, p'⟩, fun v H' y => ?_⟩
    obtain ⟨rfl, ev⟩ := W.yld i H v H' (by omega) (hk _ _ _ p) y
    exact hs i σ H' v ev p
/-- a walk of enumerate -/
structure En (J : It) (a : Addr) (S : Hp → Prop) (xs : List V) : Prop where
  go : ∀ i H, i < xs.length → S H → J.go i H
  stop : ∀ H, S H → J.stop xs.length H
  yld : ∀ i H v H', S H → J.yld i H v H' → ∃ T x, v = .ref T ∧ H T = none ∧ H' = upd H T (.tup [.int (i : Nat), x]) ∧ xs[i]? = some x
theorem en_list {K : PySem.W.Frag} {a : Addr} {xs : List V} : En (Ite K a) a (fun H => SqL K H a xs) xs where
  go := fun i H hi s => ⟨xs, xs[i], s, List.getElem?_eq_getElem hi⟩
  stop := fun H s => ⟨xs, s, Nat.le_refl _⟩
  yld := fun i H v H' s ⟨T, x, e1, e2, e3, f⟩ => ⟨T, x, e1, e2, e3, f xs s⟩
theorem en_tup {K : PySem.W.Frag} {a : Addr} {xs : List V} : En (En.IteT K a) a (fun H => SqT K H a xs) xs where
  go := fun i H hi s => ⟨xs, xs[i], s, List.getElem?_eq_getElem hi⟩
  stop := fun H s => ⟨xs, s, Nat.le_refl _⟩
  yld := fun i H v H' s ⟨T, x, e1, e2, e3, f⟩ => ⟨T, x, e1, e2, e3, f xs s⟩
theorem for_en {J : It} {a : Addr} {S : Hp → Prop} {xs : List V} (W : En J a S xs) {g : TG} {tb : TS} {D : Ends} {σ : L2.St} {H : Hp} (Pv : Nat → L2.St → Hp → Prop) (h0 : Pv 0 σ H) (hk : ∀ i σ H, Pv i σ H → S H)
    (hs : ∀ i σ H x T, xs[i]? = some x → Pv i σ H → H T = none → g (.ref T) σ (upd H T (.tup [.int (i : Nat), x])) fun σ2 H2 => tb { D with nx := Pv (i + 1), ct := Pv (i + 1), bk := D.nx } σ2 H2) (hd : ∀ σ H, Pv xs.length σ H → D.nx σ H) :
    ∃ W : Nat → Nat → L2.St → Hp → Prop, (∃ m, W 0 m σ H) ∧ ∀ i m σ H, W i m σ H →
      (J.stop i H ∧ D.nx σ H) ∨ (J.go i H ∧ ∃ N : L2.St → Hp → Prop, (∀ σ' H', N σ' H' → ∃ m', m' < m ∧ W (i + 1) m' σ' H') ∧ ∀ v H', J.yld i H v H' → g v σ H' fun σ2 H2 => tb { D with nx := N, ct := N, bk := D.nx } σ2 H2) := by
  refine ⟨fun i m σ H => m + i = xs.length ∧ Pv i σ H, ⟨xs.length, rfl, h0⟩, fun i m σ H ⟨e, p⟩ => ?_⟩
  cases m with
  | zero =>
    obtain rfl : i = xs.length := by omega
    exact .inl ⟨W.stop H (hk _ _ _ p), hd σ H p⟩
  | succ m =>
    refine .inr ⟨W.go i H (by omega) (hk _ _ _ p), Pv (i + 1), fun σ' H' p' => ⟨m, Nat.lt_succ_self m, by omega, p'⟩, fun v H' y => ?_⟩
    obtain ⟨T, x, rfl, hT, rfl, ex⟩ := W.yld i H v H' (hk _ _ _ p) y
    exact hs i σ H x T ex p hT
theorem pi_or {X : Cx} {tg it : Expr} {w1 w2 : TI} (h1 : PI X tg it w1) (h2 : PI X tg it w2) : PI X tg it (fun σ H R => w1 σ H R ∨ w2 σ H R) := ⟨fun pins s σ H R I h => h.elim (h1.run pins s σ H R I) (h2.run pins s σ H R I)⟩
def rTupE (K : PySem.W.Frag) : List V → Hp → VK → Prop := fun xs H Q => ∃ p ys, xs = [V.ref p] ∧ ((SqL K H p ys ∧ ∀ l, H l = none → Q (.ref l) (upd H l (.tup ys))) ∨ (SqT K H p ys ∧ Q (.ref p) H))
theorem call_tupE {X : Cx} : CallR X (.type "tuple") (rTupE X.K) := call_tuple_of
end Sq

/-! comprehensions over zip and enumerate, dict comprehensions, max(.., default=..), D.get(x) of a dict of the text -/
namespace Zp
open PySem PySem.Spec PyProof.Rows L2 Hb St Sq RZ
/-- a walk of new pairs: where S stands, at the i-th turn the i-th of ps -/
structure Wp (J : It) (S : Hp → Prop) (ps : List (V × V)) : Prop where
  go : ∀ i H, i < ps.length → S H → J.go i H
  stop : ∀ H, S H → J.stop ps.length H
  yld : ∀ i H v H', i < ps.length → S H → J.yld i H v H' → ∃ T p, v = .ref T ∧ H T = none ∧ H' = upd H T (.tup [p.1, p.2]) ∧ ps[i]? = some p
  keep : ∀ {H H' : Hp}, Same H H' → S H → S H'
theorem zip_at {xs ys : List V} {i : Nat} {x y : V} (hx : xs[i]? = some x) (hy : ys[i]? = some y) : (xs.zip ys)[i]? = some (x, y) := by
  rw [List.getElem?_zip_eq_some]
  exact ⟨hx, hy⟩
theorem wp_tup {K : PySem.W.Frag} {a b : Addr} {xs ys : List V} : Wp (ItzT K a b) (fun H => SqT K H a xs ∧ SqT K H b ys) (xs.zip ys) where
  go := fun i H hi s => by
    rw [List.length_zip] at hi
    exact ⟨xs, ys, xs[i]'(by omega), ys[i]'(by omega), s.1, s.2, List.getElem?_eq_getElem _, List.getElem?_eq_getElem _⟩
  stop := fun H s => ⟨xs, ys, s.1, s.2, by rw [List.length_zip]; omega⟩
  yld := fun i H v H' hi s ⟨T, x, y, e1, e2, e3, f, g⟩ => ⟨T, (x, y), e1, e2, e3, zip_at (f xs s.1) (g ys s.2)⟩
  keep := fun k s => ⟨tupFix (Fix.of k) s.1, tupFix (Fix.of k) s.2⟩
theorem wp_lst {K : PySem.W.Frag} {a b : Addr} {xs ys : List V} : Wp (Itz K a b) (fun H => SqL K H a xs ∧ SqL K H b ys) (xs.zip ys) where
  go := fun i H hi s => by
    rw [List.length_zip] at hi
    exact ⟨xs, ys, xs[i]'(by omega), ys[i]'(by omega), s.1, s.2, List.getElem?_eq_getElem _, List.getElem?_eq_getElem _⟩
  stop := fun H s => ⟨xs, ys, s.1, s.2, by rw [List.length_zip]; omega⟩
  yld := fun i H v H' hi s ⟨T, x, y, e1, e2, e3, f, g⟩ => ⟨T, (x, y), e1, e2, e3, zip_at (f xs s.1) (g ys s.2)⟩
  keep := fun k s => ⟨lstSame k s.1, lstSame k s.2⟩
section
variable {α : Type}
/-- a comprehension over a walk of pairs -/
theorem lc_mp {J : It} {S : Hp → Prop} {ps : List (V × V)} {ds : List α} (W : Wp J S ps) (keep : α → Bool) (Rel : Hp → V → α → Prop) {g : TG} {tt : TT} {te : TE} {vs : List Nat} {σ : L2.St} {H1 : Hp} {D : Addr} {Qd : Hp → Prop} (hS : S H1) (hD : H1 D = none)
    (hlen : ps.length = ds.length) (mono : ∀ H H' y d, Fix H H' → Rel H y d → Rel H' y d)
    (hs : ∀ i T p d H, ps[i]? = some p → ds[i]? = some d → Same H1 H → H T = some (.tup [p.1, p.2]) → MF H1 D ds keep Rel i H → g (.ref T) (wipe σ vs) H fun σ2 H2 => wipe σ2 vs = wipe σ vs ∧ tt σ2 H2 fun b H3 =>
      if b = true then te σ2 H3 fun y H4 => ∃ acc, H4 D = some (.lst acc) ∧ acc.length < sizeLine ∧ MF H1 D ds keep Rel (i + 1) (upd H4 D (.lst (acc ++ [y]))) else MF H1 D ds keep Rel (i + 1) H3)
    (hd : ∀ H ys, Same H1 H → H D = some (.lst ys) → All2 (Rel H) ys (ds.filter keep) → Qd H) :
    ∃ W : Nat → Nat → Hp → Prop, (∃ m, W 0 m (upd H1 D (.lst []))) ∧ ∀ i m H, W i m H →
      (J.stop i H ∧ Qd H) ∨ (J.go i H ∧ ∃ Nx : Hp → Prop, (∀ H', Nx H' → ∃ m', m' < m ∧ W (i + 1) m' H') ∧ ∀ v H', J.yld i H v H' → g v (wipe σ vs) H' fun σ2 H2 => wipe σ2 vs = wipe σ vs ∧ tt σ2 H2 fun b H3 =>
        if b = true then te σ2 H3 fun y H4 => ∃ acc, H4 D = some (.lst acc) ∧ acc.length < sizeLine ∧ Nx (upd H4 D (.lst (acc ++ [y]))) else Nx H3) := by
  have stand : ∀ {H}, Same H1 H → S H := fun {H} s => W.keep s hS
  refine ⟨fun i m H => m + i = ps.length ∧ MF H1 D ds keep Rel i H, ⟨ps.length, rfl, fun b o e => by rw [upd_ne (ne_of_none e hD)]; exact e, [], upd_same, .nil⟩, fun i m H ⟨e, p⟩ => ?_⟩
  cases m with
  | zero =>
    obtain rfl : i = ps.length := by omega
    obtain ⟨ys, ey, al⟩ := p.acc
    refine .inl ⟨W.stop H (stand p.same), hd H ys p.same ey ?_⟩
    rw [List.take_of_length_le (by omega)] at al
    exact al
  | succ m =>
    have hi : i < ps.length := by omega
    refine .inr ⟨W.go i H hi (stand p.same), MF H1 D ds keep Rel (i + 1), fun H' p' => ⟨m, Nat.lt_succ_self m, by omega, p'⟩, fun v H' y => ?_⟩
    obtain ⟨T, x, rfl, hT, rfl, ex⟩ := W.yld i H v H' hi (stand p.same) y
    have s2 := same_new hT (.tup [x.1, x.2])
    obtain ⟨s1, ys, ey, al⟩ := p
    exact hs i T x ds[i] _ ex (List.getElem?_eq_getElem (by omega)) (s1.trans s2) upd_same ⟨s1.trans s2, ys, s2 _ _ ey, al.imp fun _ _ q => mono _ _ _ _ (Fix.of s2) q⟩
/-- a dict comprehension over enumerate: kvs of the first i items -/
theorem dc_en {J : It} {a : Addr} {S : Hp → Prop} {xs : List V} (W : Sq.En J a S xs) (kv : Nat → List (L2.Key × V)) {g : TG} {tt : TT} {tk tv : TE} {vs : List Nat} {σ : L2.St} {H1 : Hp} {D : Addr} {Qd : Hp → Prop} (hS : ∀ {H}, Same H1 H → S H) (hD : H1 D = none)
    (h0 : kv 0 = []) (hl : ∀ i, (kv i).length < sizeLine)
    (hs : ∀ i T x H, xs[i]? = some x → Same H1 H → H T = some (.tup [.int (i : Nat), x]) → H D = some (.dK (kv i)) → g (.ref T) (wipe σ vs) H fun σ2 H2 => wipe σ2 vs = wipe σ vs ∧ tt σ2 H2 fun b H3 =>
      b = true ∧ tk σ2 H3 fun y H4 => tv σ2 H4 fun z H5 => Same H H5 ∧ ∃ k, y = kV k ∧ putK (kv i) k z = kv (i + 1))
    (hd : ∀ H, Same H1 H → H D = some (.dK (kv xs.length)) → Qd H) (mono : ∀ {σ H} {Q Q' : L2.St → Hp → Prop}, (∀ σ H, Q σ H → Q' σ H) → ∀ v, g v σ H Q → g v σ H Q') (monot : ∀ {σ H} {Q Q' : Bool → Hp → Prop}, (∀ b H, Q b H → Q' b H) → tt σ H Q → tt σ H Q')
    (monok : ∀ {σ H} {Q Q' : VK}, (∀ v H, Q v H → Q' v H) → tk σ H Q → tk σ H Q') (monov : ∀ {σ H} {Q Q' : VK}, (∀ v H, Q v H → Q' v H) → tv σ H Q → tv σ H Q') :
    ∃ W : Nat → Nat → Hp → Prop, (∃ m, W 0 m (upd H1 D (.dK []))) ∧ ∀ i m H, W i m H →
      (J.stop i H ∧ Qd H) ∨ (J.go i H ∧ ∃ Nx : Hp → Prop, (∀ H', Nx H' → ∃ m', m' < m ∧ W (i + 1) m' H') ∧ ∀ v H', J.yld i H v H' → g v (wipe σ vs) H' fun σ2 H2 => wipe σ2 vs = wipe σ vs ∧ tt σ2 H2 fun b H3 =>
        if b = true then tk σ2 H3 fun y H4 => tv σ2 H4 fun z H5 => ∃ kvs k, y = kV k ∧ H5 D = some (.dK kvs) ∧ kvs.length < sizeLine ∧ Nx (upd H5 D (.dK (putK kvs k z))) else Nx H3) := by
  refine ⟨fun i m H => m + i = xs.length ∧ Same H1 H ∧ H D = some (.dK (kv i)), ⟨xs.length, rfl, fun b o e => by rw [upd_ne (ne_of_none e hD)]; exact e, by rw [upd_same, h0]⟩, fun i m H ⟨e, s, eD⟩ => ?_⟩
  cases m with
  | zero =>
    obtain rfl : i = xs.length := by omega
    exact .inl ⟨W.stop H (hS s), hd H s eD⟩
  | succ m =>
    have hi : i < xs.length := by omega
    refine .inr ⟨W.go i H hi (hS s), fun H' => Same H1 H' ∧ H' D = some (.dK (kv (i + 1))), fun H' p' => ⟨m, Nat.lt_succ_self m, by omega, p'⟩, fun v H' y => ?_⟩
    obtain ⟨T, x, rfl, hT, rfl, ex⟩ := W.yld i H v H' (hS s) y
    have s2 := same_new hT (.tup [.int (i : Nat), x])
    refine mono (fun σ2 H2 q => ⟨q.1, monot (fun b H3 q => ?_) q.2⟩) _ (hs i T x _ ex (s.trans s2) upd_same (s2 _ _ eD))
    obtain ⟨rfl, q⟩ := q
    rw [if_pos rfl]
    refine monok (fun y H4 q => monov (fun z H5 q => ?_) q) q
    obtain ⟨s3, k, ek, ep⟩ := q
    refine ⟨_, k, ek, s3 _ _ (s2 _ _ eD), hl i, fun b o e => ?_, by rw [upd_same, ep]⟩
    rw [upd_ne (ne_of_none e hD)]
    exact s3 _ _ ((s.trans s2) _ _ e)
end
/-! ### max(xs, default=d) -/
def rMaxDf (K : PySem.W.Frag) : List V → List V → Hp → VK → Prop := fun xs zs H Q => ∃ (a : Addr) (ns : List Int) (d : Int), xs = [.ref a] ∧ zs = [.int d] ∧ SqL K H a (ns.map V.int) ∧ (ns = [] → Q (.int d) H) ∧ ∀ m, m ∈ ns → (∀ y ∈ ns, y ≤ m) → Q (.int m) H
theorem maxOf_is (x : Int) : ∀ xs : List Int, PySem.W.maxOf x xs ∈ x :: xs ∧ ∀ y ∈ x :: xs, y ≤ PySem.W.maxOf x xs := by
  intro xs
  unfold PySem.W.maxOf
  induction xs generalizing x with
  | nil => exact ⟨List.mem_cons_self, fun y hy => by rw [List.mem_singleton.mp hy]; exact Int.le_refl _⟩
  | cons z xs ih =>
    rw [List.foldl_cons]
    by_cases c : PySem.W.DatumOrd.lt x z = true
    · rw [if_pos c]
      have c' : x < z := of_decide_eq_true c
      obtain ⟨h1, h2⟩ := ih z
      refine ⟨List.mem_cons_of_mem _ h1, fun y hy => ?_⟩
      rcases List.mem_cons.mp hy with e | hy
      · have := h2 z List.mem_cons_self
        omega
      · exact h2 y hy
    · rw [if_neg c]
      have c' : ¬ x < z := fun q => c (decide_eq_true q)
      obtain ⟨h1, h2⟩ := ih x
      have hx := h2 x List.mem_cons_self
      refine ⟨?_, fun y hy => ?_⟩
      · rcases List.mem_cons.mp h1 with e | h1
        · rw [e]; exact List.mem_cons_self
        · exact List.mem_cons_of_mem _ (List.mem_cons_of_mem _ h1)
      · rcases List.mem_cons.mp hy with e | hy
        · omega
        · rcases List.mem_cons.mp hy with e | hy
          · omega
          · exact h2 y (List.mem_cons_of_mem _ hy)
theorem cr_maxDf {X : Cx} (hc : X.calm = true) (hu : X.A.units + 64 < cLine) : CallRK X (.builtin "max") ["default"] (rMaxDf X.K) := by
  intro pins s σ H xs zs us ws Q I r1 r2 h
  obtain ⟨a, ns, d, rfl, rfl, hs, q0, q1⟩ := h
  obtain ⟨its, rv, hl, _⟩ := I.list hs
  cases r2 with
  | cons rd rt =>
    cases rt
    obtain ⟨t, rfl⟩ := rd
    rw [Vals.ref1 r1]
    show wpAny (model X.prog X.w) X.A (call (.builtin "max") [.ref a] [(Str.ofString "default", _)]) _ _ s
    refine PySem.W.max_list_datum_default (α := Int) (I.ok.hd hc) hl.isList (PySem.W.HoldAll.of_ints rv.ints) (by show X.A.units + 1 + 0 < cLine; omega) (fun e h' tk hk => ⟨.int d, H, I.kept hk, ⟨_, rfl⟩, q0 e⟩) fun y ys i v h' tk e hv hh hk => ?_
    obtain ⟨as, hr⟩ := hh
    obtain ⟨m1, m2⟩ := maxOf_is y ys
    generalize PySem.W.maxOf y ys = m at hr m1 m2
    have hr : Reads h' v (.int m) as := hr
    cases hr with
    | int _ t => exact ⟨.int m, H, I.kept hk, ⟨t, rfl⟩, q1 m (e ▸ m1) fun y hy => m2 y (e ▸ hy)⟩
/-! ### D.get(x), D a dict of the text -/
def tKGet (K : PySem.W.Frag) (w : World) (p : Addr) (ty : TE) : TE := fun σ H Q => ty σ H fun y H2 => ∃ z v, y = .str z ∧ KDct K w p z v ∧ Q v H2
theorem pe_kget {X : Cx} {x : Str} {xp : Pos} {e : Expr} {apos cpos : Pos} {ty : TE} {p : Addr} {es : Array DictEntry} {n : Nat} (D : KDict X.K X.w p es n) (hg : Gl X x) (hm : X.mg x = some (.ref p)) (he : PE X e ty) (m : M1 X (.Name x xp) "get" apos e cpos) (hdb : (x == ("__debug__" : Str)) = false := by decide) :
    PE X (.Call (.Attribute (.Name x xp) "get" apos) [e] [] cpos) (tKGet X.K X.w p ty) := by
  refine ⟨fun pins s σ H Q I h => ?_⟩
  have ho : PE X (.Name x xp) (tC (.ref p)) := pe_glob hg hm rfl hdb
  refine wpAny_Call_method m.base m.few m.line PySem.F.plainAttrs_dict PySem.F.slot_dict_get PySem.F.type_dict_get (thn (ho.run pins s σ H (fun x H1 => x = .ref p ∧ H1 = H) I ⟨rfl, rfl⟩) fun u s1 ⟨x, H1, I1, rx, ex, eH⟩ => ?_)
  subst ex eH
  obtain rfl : u = Value.ref p := rx
  have mo := PySem.W.mapOf_K (prog := X.prog) (w := X.w) I1.kIn D.at_ D.lit
  refine ⟨mo.typeIs, fun b q => ?_, ?_⟩
  · cases q
    exact ⟨_, I1.kIn _ _ D.at_, rfl⟩
  rw [m.trees]
  refine Calls.callWith_builtin rfl (Calls.evalArgs_plain (Calls.spliced_cons (thn (he.run pins s1 σ H1 _ I1 h) fun iv s2 ⟨y, H2, I2, ry, z, v, ey, ⟨es', n', u0, hl, hk, eu, ru⟩, q2⟩ => Calls.spliced_nil ?_)))
  subst ey
  obtain ⟨t, rfl⟩ := ry
  have mo2 := PySem.W.mapOf_K (prog := X.prog) (w := X.w) I2.kIn hl hk
  refine call_meetsIn PySem.F.slot_dict_get mo2.typeIs PySem.F.entry_dict_get (PySem.F.args_dict_get_2 _ _) (meets_dict_get _ p (strKind_is X.prog X.w z t) D.low) ⟨_, mo2, ?_⟩
  rw [PySem.W.find_K hl eu]
  exact ⟨v, H2, I2.tok _, ru, q2⟩
end Zp
namespace Zp
open PySem PySem.Spec PyProof.Rows L2 Hb St Sq RZ
theorem pe_or2 {X : Cx} {e : Expr} {t1 t2 : TE} (h1 : PE X e t1) (h2 : PE X e t2) : PE X e (fun σ H Q => t1 σ H Q ∨ t2 σ H Q) := ⟨fun pins s σ H Q I h => h.elim (h1.run pins s σ H Q I) (h2.run pins s σ H Q I)⟩
theorem _root_.L2.Room.units65 {k : Nat} {A : Around} (r : Room k A) : A.units + 65 < cLine := by have := r.un; omega
end Zp

/-! readings -/
namespace Rd
open PySem PySem.Spec PyProof.Rows L2 Hb St Sq RZ
section
variable {K : PySem.W.Frag} {H : Hp} {Q : VK}
theorem ty_tup {a : Addr} {xs : List V} (h : SqT K H a xs) : TyX K H (.ref a) (.type "tuple") := by
  rcases h with (e | ⟨o, e⟩) | ⟨o, its, n, e, c, _⟩
  · exact .base (.tup e)
  · exact .fTuple e
  · exact .kTuple e c
theorem ty_lst {a : Addr} {xs : List V} (h : SqL K H a xs) : TyX K H (.ref a) (.type "list") := by
  rcases h with (e | ⟨o, e⟩) | ⟨o, its, n, e, c, _⟩
  · exact .base (.lst e)
  · exact .base (.frz e)
  · exact .kList e c
theorem rd_isTup {a : Addr} {xs : List V} (h : SqT K H a xs) (q : Q (.bl true) H) : rIsi K [.ref a, .ty "tuple"] H Q := ⟨_, _, _, _, _, rfl, .ty "tuple", ty_tup h, kit_ty (r := true) (by decide +kernel), q⟩
theorem rd_noTupL {a : Addr} {xs : List V} (h : SqL K H a xs) (q : Q (.bl false) H) : rIsi K [.ref a, .ty "tuple"] H Q := ⟨_, _, _, _, _, rfl, .ty "tuple", ty_lst h, kit_ty (r := false) (by decide +kernel), q⟩
theorem rd_noTupS {x : Str} (q : Q (.bl false) H) : rIsi K [.str x, .ty "tuple"] H Q := ⟨_, _, _, _, _, rfl, .ty "tuple", .base (.str x), kit_ty (r := false) (by decide +kernel), q⟩
theorem rd_noTupI {i : Int} (q : Q (.bl false) H) : rIsi K [.int i, .ty "tuple"] H Q := ⟨_, _, _, _, _, rfl, .ty "tuple", .base (.int i), kit_ty (r := false) (by decide +kernel), q⟩
theorem rd_isStr {x : Str} (q : Q (.bl true) H) : rIsi K [.str x, .ty "str"] H Q := ⟨_, _, _, _, _, rfl, .ty "str", .base (.str x), kit_ty (r := true) (by decide +kernel), q⟩
theorem rd_noStr {i : Int} (q : Q (.bl false) H) : rIsi K [.int i, .ty "str"] H Q := ⟨_, _, _, _, _, rfl, .ty "str", .base (.int i), kit_ty (r := false) (by decide +kernel), q⟩
theorem sIx1 {n : Nat} (h : 1 ≤ n) : HT.sIx n 0 (some 1) = 1 := by rw [show (1 : Int) = ((1 : Nat) : Int) from rfl, HT.sIx_nat]; omega
theorem cut1 {v : V} {xs : List V} : cutV (v :: xs) (some 1) none = xs := by
  unfold cutV
  rw [sIx1 (by simp), HT.sIx_none, List.drop_one, List.tail_cons, List.take_of_length_le (by simp)]
/-- a tuple from its second thing on -/
theorem rd_tail {a : Addr} {v : V} {xs : List V} (h : SqT K H a (v :: xs)) (q : ∀ p H', H p = none → Same H H' → H' p = some (.tup xs) → Q (.ref p) H') : rSlA K (.ref a) (some 1) none H Q := by
  refine ⟨a, _, rfl, h, fun ⟨z, _⟩ => ?_, fun _ p hp => ?_⟩
  · rw [sIx1 (by simp)] at z
    cases z
  · rw [cut1]
    exact q p _ hp (same_new hp _) upd_same
theorem rd_all {a : Addr} {bs : List Bool} (h : SqL K H a (bs.map V.bl)) (q : Q (.bl (bs.all id)) H) : rAll K [.ref a] H Q := ⟨a, bs, rfl, h, q⟩
theorem bl_true {α : Type} {ys : List V} {ds : List α} (h : All2 (fun (y : V) (_ : α) => y = .bl true) ys ds) : ys = (ds.map fun _ => true).map V.bl := by
  rw [List.map_map]
  exact h.map_eq fun a b e => e
theorem rd_allT {α : Type} {a : Addr} {ys : List V} {ds : List α} (h : H a = some (.lst ys)) (al : All2 (fun (y : V) (_ : α) => y = .bl true) ys ds) (q : Q (.bl true) H) : rAll K [.ref a] H Q := by
  refine rd_all (bs := ds.map fun _ => true) (SqL.of (by rw [← bl_true al]; exact h)) ?_
  rw [show ((ds.map fun _ => true).all id) = true by simp]
  exact q
theorem at_map {α β : Type} {f : α → β} {l : List α} {i : Nat} {x : β} {d : α} (h : (l.map f)[i]? = some x) (k : l[i]? = some d) : x = f d := by
  rw [List.getElem?_map, k] at h
  exact (Option.some.inj h).symm
theorem at_mem {α : Type} {l : List α} {i : Nat} {d : α} (k : l[i]? = some d) : d ∈ l := List.mem_of_getElem? k
theorem filter_all {α : Type} (l : List α) : l.filter (fun _ => true) = l := List.filter_eq_self.mpr fun _ _ => rfl
/-- an item from behind -/
theorem at_last {xs : List V} {x : V} : atI (xs ++ [x]) (-1) = some x := by
  unfold atI ixN
  rw [List.length_append, if_neg (by decide), if_pos (by simp; omega)]
  show (xs ++ [x])[(-1 + ((xs.length + [x].length : Nat) : Int)).toNat]? = some x
  rw [show (-1 + ((xs.length + [x].length : Nat) : Int)).toNat = xs.length by simp; omega, List.getElem?_append_right (Nat.le_refl _), Nat.sub_self]
  rfl
theorem at_nat {α : Type} {xs : List α} {i : Nat} {x : α} (h : xs[i]? = some x) : atI xs (i : Nat) = some x := by
  have hi := (List.getElem?_eq_some_iff.mp h).1
  unfold atI ixN
  rw [if_pos (by omega), if_pos (by omega)]
  exact h
theorem at0 {α : Type} {x : α} {xs : List α} : atI (x :: xs) 0 = some x := at_nat (i := 0) rfl
theorem at1 {α : Type} {x y : α} {xs : List α} : atI (x :: y :: xs) 1 = some y := at_nat (i := 1) rfl
theorem at2 {α : Type} {x y z : α} {xs : List α} : atI (x :: y :: z :: xs) 2 = some z := at_nat (i := 2) rfl
theorem rd_slc {σ : L2.St} {i : Nat} {a : Addr} {v : V} {xs : List V} {tr : TA} {R : List V → Hp → Prop} (e : σ[i]? = some (some (.ref a))) (h : SqT K H a (v :: xs)) (q : ∀ p H', H p = none → Same H H' → H' p = some (.tup xs) → tr σ H' fun ys H2 => R (.ref p :: ys) H2) :
    tCons (tSl (rSlA K) (tVar i) (tPart (tC (.int 1))) tNoPart) tr σ H R := by
  refine ⟨_, e, 1, rfl, ?_⟩
  exact rd_tail (Q := fun x H1 => tr σ H1 fun ys H2 => R (x :: ys) H2) h q
end
end Rd

/-! sorted of a list of data: texts, ints, tuples of these; tuples of which the first is empty too -/
namespace PySem.SeqAt
open AutoSeq1 (wpAny_loadPart')
open MeetsSeq MeetsSeq2 MeetsSeq3 SeqRoads2
section
variable {A : Around} {s : Shared}
theorem call_tuple_lt {prog : Program} {w : World} {E : Value → Shared → Prop} {Q : Value → Shared → Prop} {l b : Addr} {items items2 : Array Value} {e r : Nat → Bool} (hl : s.heap.IsTuple l items) (hb : s.heap.IsTuple b items2)
    (he : ∀ j (h1 : j < items.size) (h2 : j < items2.size), EqAt A.in1 s items[j] items2[j] (e j)) (hr : ∀ j (h1 : j < items.size) (h2 : j < items2.size), e j = false → RcLt A.in1 s items[j] items2[j] (r j))
    (h : Q (.bool (firstLt e r (decide (items.size < items2.size)) (List.range (min items.size items2.size)))) s) : wpAny (model prog w) A (call (.builtin "tuple.__lt__") [.ref l, .ref b]) Q E s := by
  obtain ⟨⟨cls, dd, data, sl⟩, ho, hc, n, hd⟩ := id hl
  obtain ⟨⟨cls2, dd2, data2, sl2⟩, ho2, hc2, n2, hd2⟩ := id hb
  simp only at hc hd hc2 hd2
  subst hc hd hc2 hd2
  exact call_meets F.slot_tuple_lt ⟨_, ho, rfl⟩ F.entry_tuple_lt (F.args_tuple_lt_2 _ _) (tuple_ltAt l b items items2 n n2 dd dd2 sl sl2 e r) ⟨ho, ho2, he, hr, h⟩
end
end PySem.SeqAt
namespace PySem.W
open PySem PySem.Calls PyProof.Rows PySem.SeqAt
section
variable {prog : Program} {w : World} {A : Around} {E : Value → Shared → Prop} {s : Shared}
theorem oneLt_tup {xs ys : List PyData} {a b : Value} {as bs : List Addr} {Q : Bool → Shared → Prop} (ra : Reads s.heap a (.tuple xs) as) (rb : Reads s.heap b (.tuple ys) bs) (hal : alikeAll xs ys = true)
    (hu : A.units + min (PyData.depth (.tuple xs)) (PyData.depth (.tuple ys)) < cLine) (hq : Q (dataLt (.tuple xs) (.tuple ys)) s) : wpAny (model prog w) A (oneLt' true a b) Q E s := by
  cases ra with
  | @tuple l o vs n _ as₁ h1 h2 h3 h4 =>
    cases rb with
    | @tuple l' o' vs' n' _ bs₁ k1 k2 k3 k4 =>
      have n1 : vs.size = xs.length := by simpa using SeqAt.ReadsAll.length _ _ _ h4
      have n2 : vs'.size = ys.length := by simpa using SeqAt.ReadsAll.length _ _ _ k4
      rw [dataLt_tuple, ← firstLt_toks xs ys hal, ← n1, ← n2] at hq
      rw [oneLt'_eq]
      simp only [if_true]
      refine wpAny_bind (wpAny_cRoomFor (room_here hu) ?_)
      refine wpAny_bind (wpAny_callSpecialIfBound?_slot (T := "tuple") ⟨_, h1, h2⟩ F.slot_tuple_lt (call_tuple_lt (e := pairEq xs ys) (r := fun j => dataLt (xs.getD j .none) (ys.getD j .none)) ⟨_, h1, h2, _, h3⟩ ⟨_, k1, k2, _, k3⟩ (fun j j1 j2 => ?_) (fun j j1 j2 hj => ?_) ?_))
      · have := eqAt_alikeAll xs ys A.in1 s vs.toList vs'.toList _ _ h4 k4 hal (room_in hu) j (by simpa using j1) (by simpa using j2)
        simpa using this
      · have := rcLt_alikeAll xs ys A.in1 s vs.toList vs'.toList _ _ h4 k4 hal (room_in hu) j (by simpa using j1) (by simpa using j2) hj
        simpa using this
      · exact wpAny_truthy_bool hq
/-- tuples, the first of them empty -/
def Tup0 (ds : List PyData) : Prop := (∀ d, d ∈ ds → ∃ xs, d = .tuple xs) ∧ ∃ r, ds = .tuple [] :: r
theorem tup_firsts {M : Model} {ds : List PyData} : ∀ {vs : List Value} {ds : List PyData}, EachIs (fun v d => ∃ as, Reads s.heap v d as) vs ds → (∀ d, d ∈ ds → ∃ xs, d = .tuple xs) →
    ∃ fs : List (Option Value), fs.length = vs.length ∧ (∀ r, ds = .tuple [] :: r → fs[0]? = some none) ∧ ∀ {Q : List (Option Value) → Shared → Prop}, Q fs s → wpAny M A (vs.mapM firstOfTuple') Q E s
  | _, _, .nil, _ => ⟨[], rfl, fun r e => (by cases e), fun h => (by rw [List.mapM_nil]; exact wpAny_pure h)⟩
  | _, _, .cons (a := v) (b := d) ⟨as, r⟩ t, ht => by
    obtain ⟨fs, h1, h2, h3⟩ := tup_firsts (M := M) (ds := ds) t fun d hd => ht d (List.mem_cons_of_mem _ hd)
    obtain ⟨xs, rfl⟩ := ht d (List.mem_cons_self ..)
    cases r with
    | @tuple a o ys n _ _ ho hc hd hr =>
      refine ⟨ys[0]? :: fs, by rw [List.length_cons, List.length_cons, h1], fun r e => ?_, fun {Q} h => ?_⟩
      · cases e
        have : ys.toList = [] := by
          generalize ys.toList = l at hr
          cases hr; rfl
        have e2 : ys[0]? = none := by rw [← Array.getElem?_toList, this]; rfl
        rw [e2]; rfl
      · rw [List.mapM_cons]
        refine wpAny_bind ?_
        rw [kas_first_eq]
        refine wpAny_bind (Looks.here (show Looks M s.heap (typeOf (.ref a)) o.cls from (Looks.ld ho).andThen .now) ?_)
        rw [hc, if_neg (by first | decide | simp)]
        refine wpAny_bind (listItems_at ho hd (wpAny_pure ?_))
        exact wpAny_bind (h3 (Q := fun bs s' => wpAny M A (pure (ys[0]? :: bs)) Q E s') (wpAny_pure h))
theorem tup0_kind {M : Model} {vs : List Value} {ds : List PyData} {Q : SortKind → Shared → Prop} (e : EachIs (fun v d => ∃ as, Reads s.heap v d as) vs ds) (h0 : Tup0 ds) (h : Q oneType' s) :
    wpAny M A (keyKind' vs.toArray) Q E s := by
  obtain ⟨ht, r, er⟩ := h0
  obtain ⟨fs, h1, h2, h3⟩ := tup_firsts (M := M) (A := A) (E := E) (ds := ds) e ht
  have h2 := h2 r er
  have hne : vs ≠ [] := by
    rintro rfl
    have := e.length
    rw [er] at this
    simp at this
  rw [kat_kind_eq, List.mapM_toArray, map_eq_pure_bind]
  refine wpAny_bind (wpAny_bind (h3 (wpAny_pure ?_)))
  have hfs : ∃ fr, fs = none :: fr := by
    cases fs with
    | nil => simp at h2
    | cons x fr => simp at h2; subst h2; exact ⟨fr, rfl⟩
  obtain ⟨fr, rfl⟩ := hfs
  have hall : ((none :: fr : List (Option Value)).toArray.all fun x => x.isSome) = false := by simp
  rw [if_neg (by rw [hall]; decide)]
  have hf0 : (((none :: fr : List (Option Value)).toArray[0]?).bind id).isSome = false := by simp
  rw [if_neg (by rw [hf0]; decide)]
  have hT : ∀ v ∈ vs, Looks M s.heap (typeOf v) (.type "tuple") := fun v hv => by
    obtain ⟨d, hd, as, r⟩ := e.left v hv
    obtain ⟨xs, rfl⟩ := ht d hd
    exact looks_reads r
  obtain ⟨v₁, rest, rfl⟩ := List.exists_cons_of_ne_nil hne
  rw [oneTypeOnly'_eq, List.mapM_toArray, map_eq_pure_bind]
  refine wpAny_bind (wpAny_bind (wpAny_bind (kas_mapM (r := .type "tuple") _ (fun v hv Q' hq => (hT v hv).here hq) (wpAny_pure ?_))))
  have hall2 : ((List.map (fun _ => Value.type "tuple") (v₁ :: rest)).toArray.all fun x => x == Value.type "tuple") = true := by
    simp only [List.all_toArray, List.all_map, List.all_eq_true]
    intro _ _
    exact beq_self_eq_true _
  have h0 : (List.map (fun _ => Value.type "tuple") (v₁ :: rest)).toArray[0]? = some (Value.type "tuple") := by simp
  rw [h0]
  simp only [hall2, if_true]
  exact wpAny_pure (wpAny_pure h)
theorem SortsAt.tup0 {vs : List Value} {ds : List PyData} (e : EachIs (fun v d => ∃ as, Reads s.heap v d as) vs ds) (hal : AllAlike ds) (hk : Tup0 ds) (hu : ∀ d, d ∈ ds → A.units + d.depth < cLine) : SortsAt prog w A s (dataKind s.heap ds) vs := by
  have room : ∀ {d d' : PyData}, d ∈ ds → A.units + min d.depth d'.depth < cLine := fun {d d'} hd => Nat.lt_of_le_of_lt (Nat.add_le_add_left (Nat.min_le_left _ _) _) (hu d hd)
  refine ⟨fun v hv => ?_, oneType', ?_, fun h2 E Q hq => tup0_kind e hk hq⟩
  · obtain ⟨d, hd, as, r⟩ := e.left v hv
    exact ⟨_, dataKind_some hal hd r⟩
  · intro E x y a b Q ha hb hq
    obtain ⟨d, as, hd, ra, rfl⟩ := dataKind_inv ha
    obtain ⟨d', as', hd', rb, rfl⟩ := dataKind_inv hb
    rw [keyLt'_oneType]
    have hr := room (d' := d') hd
    have hdd := hal d hd d' hd'
    obtain ⟨xs, rfl⟩ := hk.1 d hd
    obtain ⟨ys, rfl⟩ := hk.1 d' hd'
    exact oneLt_tup ra rb (by simpa [alike] using hdd) hr hq
section
variable {β : Type} {vs : List Value} {bs : List β} {enc : β → PyData} {R : Value → β → Prop}
theorem sorted_dataT {l : Addr} {Q : Value → Shared → Prop} (hl : s.heap.IsList l vs.toArray) (e : EachIs R vs bs) (er : EachIs (fun v b => ∃ as, Reads s.heap v (enc b) as) vs bs) (hal : AllAlike (bs.map enc)) (hk : Sortable (bs.map enc) ∨ Tup0 (bs.map enc)) (hL : bs.length ≤ sizeLine)
    (hu : ∀ b, b ∈ bs → A.units + 2 + (enc b).depth < cLine) (h : ∀ out, out.length = bs.length → EachIs R out (bs.mergeSort (dataLe false enc)) → Q (.ref (s.heap.objs.size + 1)) { s with heap := sortedAll s.heap vs (List.toArray out) }) :
    wpAny (model prog w) A (call (.builtin "sorted") [.ref l]) Q E s := by
  rcases hk with hk | hk
  · exact sorted_data hl e er hal hk hL hu h
  have er' : EachIs (fun v b => ∃ as, Reads (sortingHeap (copyHeap s.heap vs) (s.heap.objs.size + 1) vs) v (enc b) as) vs bs := er.mono fun _ _ ⟨as, r⟩ => ⟨as, PyProof.Rows.Reads.keeps (fun _ _ => sorting_copy_old) r⟩
  exact sorted_vals hl (SortsAt.tup0 (s := { s with heap := sortingHeap (copyHeap s.heap vs) (s.heap.objs.size + 1) vs }) (each_map (R := fun v d => ∃ as, Reads (sortingHeap (copyHeap s.heap vs) (s.heap.objs.size + 1) vs) v d as) enc er') hal hk (bound_map hu)) (by rw [e.length]; exact hL)
    (h _ (by rw [sortVals_length false rfl]; exact e.length) (sortVals_data false e er' hal))
end
end
end PySem.W
namespace L2
open PySem PySem.Spec PyProof.Rows PySem.W
/-- sorted(xs), xs a list that reads as data (bs: the items, each with its datum): a new list -/
def rSortD (K : PySem.W.Frag) : List V → Hp → VK → Prop := fun vs H Q => ∃ (a : Addr) (bs : List (V × PyData)), vs = [V.ref a] ∧ SqL K H a (bs.map (·.1)) ∧ (∀ b ∈ bs, Dp K H b.1 b.2 ∧ b.2.depth ≤ 20) ∧ AllAlike (bs.map (·.2)) ∧ (Sortable (bs.map (·.2)) ∨ Tup0 (bs.map (·.2))) ∧
  ∀ p, H p = none → Q (.ref p) (upd H p (.lst ((bs.mergeSort (dataLe false (·.2))).map (·.1))))
theorem each_vals : ∀ {us : List Value} {bs : List (V × PyData)}, EachIs (fun u b => RelV b.1 u) us bs → Vals (bs.map (·.1)) us
  | _, _, .nil => .nil
  | _, _, .cons h t => .cons h (each_vals t)
theorem vals_each : ∀ {us : List Value} {bs : List (V × PyData)}, Vals (bs.map (·.1)) us → EachIs (fun u b => RelV b.1 u) us bs
  | _, [], h => by cases h; exact .nil
  | _, b :: bs, h => by cases h with | cons h1 h2 => exact .cons h1 (vals_each h2)
section
variable {X : Cx}
theorem cr_sortD (hu : X.A.units + 64 < cLine) : CallR X (.builtin "sorted") (rSortD X.K) := by
  intro pins s σ H vs us Q I r h
  obtain ⟨a, bs, rfl, hs, hx, hal, hk, q⟩ := h
  obtain ⟨its, rv, hl, hz⟩ := I.list hs
  obtain ⟨u, rfl, ru⟩ := vals1 r
  obtain rfl : u = Value.ref a := ru
  have e := vals_each rv
  have hm : ∀ {us : List Value} {cs : List (V × PyData)}, EachIs (fun u b => RelV b.1 u) us cs → (∀ b ∈ cs, b ∈ bs) → EachIs (fun v b => ∃ as, Reads s.heap v ((·.2) b) as) us cs := by
    intro us cs h
    induction h with
    | nil => intro _; exact .nil
    | cons h1 _ ih => intro hb; exact .cons (Dp.reads I _ _ _ (hx _ (hb _ (List.mem_cons_self ..))).1 h1) (ih fun b m => hb b (List.mem_cons_of_mem _ m))
  rw [List.length_map] at hz
  refine sorted_dataT (enc := (·.2)) hl.isList e (hm e fun _ h => h) hal hk hz (fun b hb => ?_) fun out ho eo => ?_
  · have := (hx b hb).2
    omega
  · obtain ⟨n, hn⟩ := sortedAll_at s.heap its out.toArray
    have hv := each_vals eo
    refine ⟨.ref (s.heap.objs.size + 1), upd H (s.heap.objs.size + 1) (.lst ((bs.mergeSort (dataLe false (·.2))).map (·.1))), I.laid (t' := s.toks) (fun _ _ => sortedAll_old) (Nat.le_succ _) ⟨?_, out, n, hv, hn⟩, rfl, q _ (I.hok.fresh (Nat.le_succ _))⟩
    rw [List.length_map, List.length_mergeSort]
    exact hz
end
end L2

/-! names and data that may be compared by == -/
namespace Da
open PySem PySem.Spec PyProof.Rows L2 Hb St Sq
def IsNm (x : Str) : Prop := 0 < x.length ∧ x.length ≤ 8 ∧ ∀ c ∈ x.cps.toList, 97 ≤ c ∧ c < 123
/-! ### names -/
theorem az_all : ((List.range 26).all fun k => Unicode.isAlpha (97 + k) && Unicode.isLower (97 + k) && !Unicode.isUpper (97 + k) && !Unicode.isTitle (97 + k)) = true := by decide +kernel
theorem az {c : Nat} (h : 97 ≤ c ∧ c < 123) : Unicode.isAlpha c = true ∧ Unicode.isLower c = true ∧ Unicode.isUpper c = false ∧ Unicode.isTitle c = false := by
  have q := List.all_eq_true.mp az_all (c - 97) (List.mem_range.mpr (by omega))
  rw [show 97 + (c - 97) = c by omega] at q
  simp only [Bool.and_eq_true, Bool.not_eq_true'] at q
  exact ⟨q.1.1.1, q.1.1.2, q.1.2, q.2⟩
theorem nm_all {x : Str} (h : IsNm x) {p : Nat → Bool} (k : ∀ c, 97 ≤ c ∧ c < 123 → p c = true) : x.cps.all p = true := by
  rw [Array.all_eq_true_iff_forall_mem]
  exact fun c hc => k c (h.2.2 c (Array.mem_toList_iff.mpr hc))
theorem nm_ascii {x : Str} (h : IsNm x) : Txt.isascii x = true := nm_all h fun c hc => by simp; omega
theorem nm_alpha {x : Str} (h : IsNm x) : Txt.isalpha x = true := by
  unfold Txt.isalpha
  rw [nm_all h fun c hc => (az hc).1, decide_eq_true h.1]; rfl
theorem nm_lower {x : Str} (h : IsNm x) : Txt.islower x = true := by
  unfold Txt.islower
  have h1 : x.cps.any Unicode.isLower = true := by
    rw [Array.any_eq_true]
    have hp : 0 < x.cps.size := h.1
    exact ⟨0, hp, (az (h.2.2 _ (by simp))).2.1⟩
  have h2 : (x.cps.any fun c => Unicode.isUpper c || Unicode.isTitle c) = false := by
    rw [Array.any_eq_false]
    intro i hi
    have := az (h.2.2 x.cps[i] (by simp))
    rw [this.2.2.1, this.2.2.2]; decide
  rw [h1, h2]; rfl
theorem eqv_int (a b : Int) : PyData.eqv (.int a) (.int b) = decide (a = b) := by
  show (a == b) = _
  by_cases h : a = b
  · subst h; simp
  · simp [h]
theorem eqv_str (a b : Str) : PyData.eqv (.str a) (.str b) = decide (a = b) := by
  show (a == b) = _
  by_cases h : a = b
  · subst h; simp
  · rw [decide_eq_false h]; exact beq_eq_false_iff_ne.mpr h
theorem eqvAll_map {α : Type} [DecidableEq α] {f : α → PyData} (h : ∀ a b, PyData.eqv (f a) (f b) = decide (a = b)) : ∀ xs ys : List α, PyData.eqvAll (xs.map f) (ys.map f) = decide (xs = ys)
  | [], [] => rfl
  | [], _ :: _ => rfl
  | _ :: _, [] => rfl
  | x :: xs, y :: ys => by
    show (PyData.eqv (f x) (f y) && PyData.eqvAll (xs.map f) (ys.map f)) = _
    rw [h, eqvAll_map h xs ys, ← Bool.decide_and]
    exact decide_eq_decide.mpr (by rw [List.cons.injEq])
/-- may be compared, no deeper than n -/
def Sh (n : Nat) (d : PyData) : Prop := PyData.canLay0 d = true ∧ PyData.depth d ≤ n
theorem sh_all {α : Type} {f : α → PyData} {n : Nat} : ∀ {l : List α}, (∀ a ∈ l, Sh n (f a)) → PyData.canLayAll0 (l.map f) = true ∧ PyData.depthAll (l.map f) ≤ n
  | [], _ => ⟨rfl, Nat.zero_le _⟩
  | a :: l, h => by
    obtain ⟨h1, h2⟩ := h a List.mem_cons_self
    obtain ⟨k1, k2⟩ := sh_all fun b hb => h b (List.mem_cons_of_mem a hb)
    refine ⟨?_, Nat.max_le.mpr ⟨h2, k2⟩⟩
    show (PyData.canLay0 (f a) && PyData.canLayAll0 (l.map f)) = true
    rw [h1, k1]; rfl
theorem sh_tup {α : Type} {f : α → PyData} {n : Nat} {l : List α} (h : ∀ a ∈ l, Sh n (f a)) : Sh (n + 1) (.tuple (l.map f)) := let ⟨a, b⟩ := sh_all h; ⟨a, Nat.succ_le_succ b⟩
theorem sh_lst {α : Type} {f : α → PyData} {n : Nat} {l : List α} (h : ∀ a ∈ l, Sh n (f a)) : Sh (n + 1) (.list (l.map f)) := let ⟨a, b⟩ := sh_all h; ⟨a, Nat.succ_le_succ b⟩
theorem Sh.ok {n : Nat} {d : PyData} (h : Sh n d) (hn : n ≤ 64) : SeqAt.shaped d = true := by
  unfold SeqAt.shaped
  rw [h.1, decide_eq_true (Nat.le_trans h.2 hn)]; rfl
theorem sh_int (n : Nat) (i : Int) : Sh n (.int i) := ⟨rfl, Nat.zero_le _⟩
theorem sh_str {n : Nat} {x : Str} (h : IsNm x) : Sh n (.str x) := ⟨nm_all h fun c hc => decide_eq_true (by omega), Nat.zero_le _⟩
section
variable {K : PySem.W.Frag} {H : Hp}
theorem dp_strs : ∀ xs : List Str, DpAll K H (xs.map V.str) (xs.map PyData.str)
  | [] => .nil
  | x :: xs => .cons (.str x) (dp_strs xs)
theorem dp_intl : ∀ xs : List Int, DpAll K H (xs.map V.int) (xs.map PyData.int)
  | [] => .nil
  | x :: xs => .cons (.int x) (dp_intl xs)
theorem dp_all {α : Type} {R : V → α → Prop} {f : α → PyData} (h : ∀ v a, R v a → Dp K H v (f a)) : ∀ {vs : List V} {ds : List α}, All2 R vs ds → DpAll K H vs (ds.map f)
  | _, _, .nil => .nil
  | _, _, .cons r t => .cons (h _ _ r) (dp_all h t)
end
end Da

/-! lots of names: their orders, all lots of some names, the least and the greatest of some -/
namespace Lo
open PySem PySem.Spec PyProof.Rows L2 St PySem.W
/-! ### orders -/
def lD (l : List Str) : PyData := .tuple (l.map .str)
def kD (l : List Str) : PyData := .tuple [.int (l.length : Nat), lD l]
def tokL (l : List Str) : List (Int ⊕ List Nat) := keyToksAll (l.map .str)
theorem tok_inj : ∀ {a b : List Str}, tokL a = tokL b → a = b
  | [], [], _ => rfl
  | [], b :: bs, h => by unfold tokL keyToksAll at h; simp at h
  | a :: as, [], h => by unfold tokL keyToksAll at h; simp at h
  | a :: as, b :: bs, h => by
    have h' : (Sum.inl 1 :: ([Sum.inr a.cps.toList] ++ tokL as) : List (Int ⊕ List Nat)) = Sum.inl 1 :: ([Sum.inr b.cps.toList] ++ tokL bs) := h
    simp only [List.cons_append, List.nil_append, List.cons.injEq, true_and, Sum.inr.injEq] at h'
    rw [str_of_cps h'.1, tok_inj h'.2]
section
variable {β : Type} {k : β → PyData}
theorem le_trans (a b c : β) (h : dataLe false k a b = true) (h2 : dataLe false k b c = true) : dataLe false k a c = true := by
  have e : ∀ x y : β, dataLe false k x y = !(lexLt itemOrd (keyToks (k y)) (keyToks (k x))) := fun _ _ => rfl
  rw [e, Bool.not_eq_true'] at h h2 ⊢
  cases q : lexLt itemOrd (keyToks (k c)) (keyToks (k a)) with
  | false => rfl
  | true =>
    rcases lex_negTrans (O := itemOrd) _ (keyToks (k b)) _ q with x | x
    · rw [h2] at x; cases x
    · rw [h] at x; cases x
theorem le_total (a b : β) : (dataLe false k a b || dataLe false k b a) = true := by
  have e : ∀ x y : β, dataLe false k x y = !(lexLt itemOrd (keyToks (k y)) (keyToks (k x))) := fun _ _ => rfl
  rw [e, e]
  cases q : lexLt itemOrd (keyToks (k b)) (keyToks (k a)) with
  | false => rfl
  | true =>
    cases q' : lexLt itemOrd (keyToks (k a)) (keyToks (k b)) with
    | false => rfl
    | true =>
      have := lex_trans (O := itemOrd) _ _ _ q q'
      rw [lex_irrefl] at this; cases this
theorem le_anti (inj : ∀ a b, keyToks (k a) = keyToks (k b) → a = b) {a b : β} (h : dataLe false k a b = true) (h2 : dataLe false k b a = true) : a = b := by
  have e : ∀ x y : β, dataLe false k x y = !(lexLt itemOrd (keyToks (k y)) (keyToks (k x))) := fun _ _ => rfl
  rw [e, Bool.not_eq_true'] at h h2
  exact inj a b (lex_total (O := itemOrd) _ _ h2 h)
theorem sort_uniq (inj : ∀ a b, keyToks (k a) = keyToks (k b) → a = b) {l m : List β} (p : l.Perm m) (hl : l.Pairwise (fun a b => dataLe false k a b = true)) : l = m.mergeSort (dataLe false k) :=
  List.Perm.eq_of_pairwise (fun _ _ _ _ h h2 => le_anti inj h h2) hl (List.pairwise_mergeSort le_trans le_total _) (p.trans (List.mergeSort_perm _ _).symm)
theorem sort_perm (inj : ∀ a b, keyToks (k a) = keyToks (k b) → a = b) {l m : List β} (p : l.Perm m) : l.mergeSort (dataLe false k) = m.mergeSort (dataLe false k) :=
  sort_uniq inj ((List.mergeSort_perm _ _).trans p) (List.pairwise_mergeSort le_trans le_total _)
end
theorem lD_inj (a b : List Str) (h : keyToks (lD a) = keyToks (lD b)) : a = b := tok_inj h
theorem kD_inj (a b : List Str) (h : keyToks (kD a) = keyToks (kD b)) : a = b := by
  have e : ∀ l : List Str, keyToks (kD l) = Sum.inl 1 :: ([Sum.inl ((l.length : Nat) : Int)] ++ (Sum.inl 1 :: (tokL l ++ [Sum.inl 0]))) := fun _ => rfl
  rw [e, e] at h
  simp only [List.cons_append, List.nil_append, List.cons.injEq, true_and] at h
  exact tok_inj (List.append_cancel_right h.2)
def lle : List Str → List Str → Bool := dataLe false lD
def kle : List Str → List Str → Bool := dataLe false kD
theorem alike_strs : ∀ a b : List Str, alikeAll (a.map .str) (b.map .str) = true
  | [], _ => by simp [alikeAll]
  | _ :: _, [] => by simp [alikeAll]
  | x :: xs, y :: ys => by
    show alikeAll (.str x :: xs.map .str) (.str y :: ys.map .str) = true
    rw [alikeAll, alike_strs xs ys]
    simp [alike]
theorem alike_lD (a b : List Str) : alike (lD a) (lD b) = true := by
  show alike (.tuple _) (.tuple _) = true
  unfold alike
  exact alike_strs a b
theorem alike_kD (a b : List Str) : alike (kD a) (kD b) = true := by
  show alike (.tuple [_, _]) (.tuple [_, _]) = true
  rw [alike, alikeAll, alikeAll, alikeAll, alike_lD]
  simp [alike]
theorem kle_len {a b : List Str} (h : kle a b = true) : a.length ≤ b.length := by
  unfold kle at h
  rw [dataLe_eq] at h
  have h : (!dataLt (kD b) (kD a)) = true := h
  rw [Bool.not_eq_true'] at h
  unfold kD at h
  rw [dataLt_pair (by simp [alike]) (alike_lD _ _), dataLt_int] at h
  by_cases c : b.length = a.length
  · omega
  · have e : PyData.eqv (.int ((b.length : Nat) : Int)) (.int ((a.length : Nat) : Int)) = false := by
      simp only [PyData.eqv, beq_eq_false_iff_ne, ne_eq]
      omega
    rw [e] at h
    simp at h
    omega
theorem lle_nil (a : List Str) : lle [] a = true := by
  unfold lle
  rw [dataLe_eq]
  show (!dataLt (lD a) (lD [])) = true
  rw [Bool.not_eq_true']
  cases a with
  | nil => exact lex_irrefl (O := itemOrd) _
  | cons x r =>
    show lexLt itemOrd (Sum.inl 1 :: ([Sum.inr x.cps.toList] ++ tokL r)) [Sum.inl 0] = false
    rw [lex_diff (O := itemOrd) (by simp)]
    rfl
/-! ### all lots -/
def growP (ls : List (List Str)) (n : Str) : List (List Str) := ls ++ ls.map (· ++ [n])
/-- all lots of names, one name after another -/
def LL (ns : List Str) : List (List Str) := ns.foldl growP [[]]
theorem mem_growP : ∀ (ns : List Str) (pre : List Str) (q : List (List Str)), (∀ x, x ∈ q ↔ x.Sublist pre) → ∀ x, x ∈ ns.foldl growP q ↔ x.Sublist (pre ++ ns)
  | [], pre, q, h, x => by simpa using h x
  | n :: ns, pre, q, h, x => by
    rw [List.foldl_cons, mem_growP ns (pre ++ [n]) (growP q n) fun y => ?_]
    · rw [List.append_assoc]; rfl
    · unfold growP
      rw [List.mem_append, h y, List.mem_map]
      constructor
      · rintro (z | ⟨z, hz, rfl⟩)
        · exact z.trans (List.sublist_append_left _ _)
        · exact List.Sublist.append ((h z).mp hz) (List.Sublist.refl _)
      · intro z
        obtain ⟨a, b, rfl, h1, h2⟩ := List.sublist_append_iff.mp z
        rcases List.sublist_cons_iff.mp h2 with h3 | ⟨r, rfl, h3⟩
        · obtain rfl := List.eq_nil_of_sublist_nil h3
          exact .inl (by simpa using h1)
        · obtain rfl := List.eq_nil_of_sublist_nil h3
          exact .inr ⟨a, (h a).mpr h1, rfl⟩
theorem mem_LL {ns x : List Str} : x ∈ LL ns ↔ x.Sublist ns := by
  have := mem_growP ns [] [[]] (fun x => by simp) x
  rwa [List.nil_append] at this
theorem nodup_growP : ∀ (ns : List Str) (q : List (List Str)), ns.Nodup → q.Nodup → (∀ x ∈ q, ∀ n ∈ ns, n ∉ x) → (ns.foldl growP q).Nodup
  | [], q, _, h, _ => h
  | n :: ns, q, nd, h, f => by
    obtain ⟨n1, n2⟩ := List.nodup_cons.mp nd
    refine nodup_growP ns (growP q n) n2 ?_ fun x hx m hm => ?_
    · unfold growP
      refine List.nodup_append.mpr ⟨h, List.pairwise_map.mpr (h.imp fun ne e => ne (List.append_cancel_right e)), fun a ha b hb e => ?_⟩
      obtain ⟨c, hc, rfl⟩ := List.mem_map.mp hb
      exact f a ha n (List.mem_cons_self ..) (by rw [e]; exact List.mem_append_right _ (List.mem_singleton.mpr rfl))
    · unfold growP at hx
      rcases List.mem_append.mp hx with hx | hx
      · exact f x hx m (List.mem_cons_of_mem _ hm)
      · obtain ⟨c, hc, rfl⟩ := List.mem_map.mp hx
        intro z
        rcases List.mem_append.mp z with z | z
        · exact f c hc m (List.mem_cons_of_mem _ hm) z
        · rw [List.mem_singleton.mp z] at hm
          exact n1 hm
theorem nodup_LL {ns : List Str} (nd : ns.Nodup) : (LL ns).Nodup := nodup_growP ns [[]] nd (by simp) (by simp)
theorem growP_len : ∀ (ns : List Str) (q : List (List Str)), (ns.foldl growP q).length = q.length * 2 ^ ns.length
  | [], q => by simp
  | n :: ns, q => by
    rw [List.foldl_cons, growP_len ns]
    unfold growP
    simp only [List.length_append, List.length_map, List.length_cons]
    rw [Nat.pow_succ, Nat.mul_comm (2 ^ ns.length) 2, ← Nat.mul_assoc]
    congr 1
    omega
theorem LL_len {ns : List Str} (h : ns.length ≤ 4) : (LL ns).length ≤ 16 := by
  have := growP_len ns [[]]
  have h2 : 2 ^ ns.length ≤ 2 ^ 4 := Nat.pow_le_pow_right (by decide) h
  unfold LL
  simp at this
  omega
theorem growP_head : ∀ (ns : List Str) (q : List (List Str)), (∃ r, q = [] :: r) → ∃ r, ns.foldl growP q = [] :: r
  | [], _, h => h
  | n :: ns, q, ⟨r, e⟩ => growP_head ns _ ⟨r ++ q.map (· ++ [n]), by unfold growP; rw [e]; rfl⟩
/-- lots_among: sorted(lots)[1:] -/
def LA (ns : List Str) : List (List Str) := ((LL (lotS ns)).mergeSort lle).drop 1
theorem LA_prog (ns : List Str) : (LL (lotS ns)).mergeSort lle = [] :: LA ns := by
  obtain ⟨r, e⟩ := growP_head (lotS ns) [[]] ⟨[], rfl⟩
  have e : LL (lotS ns) = [] :: r := e
  have s : ([] :: r.mergeSort lle : List (List Str)) = (LL (lotS ns)).mergeSort lle := by
    refine sort_uniq lD_inj ?_ (List.pairwise_cons.mpr ⟨fun a _ => lle_nil a, List.pairwise_mergeSort le_trans le_total _⟩)
    rw [e]
    exact List.Perm.cons _ (List.mergeSort_perm _ _)
  unfold LA
  rw [← s]; rfl
/-- ordered_lots -/
def OL (ns : List Str) : List (List Str) := (LL (lotS ns)).mergeSort kle
theorem OL_prog (ns : List Str) : ([] :: LA ns).mergeSort kle = OL ns := by
  rw [← LA_prog]
  exact sort_perm kD_inj (List.mergeSort_perm _ _)
theorem mem_OL {ns x : List Str} : x ∈ OL ns ↔ x.Sublist (lotS ns) := (List.mergeSort_perm _ _).mem_iff.trans mem_LL
theorem nodup_OL (ns : List Str) : (OL ns).Nodup := (List.mergeSort_perm _ _).nodup_iff.mpr (nodup_LL (asc_nodupS (asc_lotS ns)))
theorem OL_congr {ns ms : List Str} (h : ∀ x, x ∈ ns ↔ x ∈ ms) : OL ns = OL ms := by unfold OL; rw [lotS_congr h]
theorem OL_asc (ns : List Str) : (OL ns).Pairwise (fun a b => kle a b = true) := List.pairwise_mergeSort le_trans le_total _
/-! ### part of -/
def prt (xs ys : List Str) : Bool := xs.all fun x => decide (x ∈ ys)
theorem prt_iff {xs ys : List Str} : prt xs ys = true ↔ ∀ x ∈ xs, x ∈ ys := by
  unfold prt
  rw [List.all_eq_true]
  exact ⟨fun h x m => of_decide_eq_true (h x m), fun h x m => decide_eq_true (h x m)⟩
theorem nodup_len {α : Type} [DecidableEq α] : ∀ {l m : List α}, l.Nodup → (∀ x ∈ l, x ∈ m) → l.length ≤ m.length
  | [], _, _, _ => Nat.zero_le _
  | x :: l, m, nd, h => by
    obtain ⟨n1, n2⟩ := List.nodup_cons.mp nd
    have ih := nodup_len (l := l) (m := m.erase x) n2 fun y hy => (List.mem_erase_of_ne (show y ≠ x from fun z => n1 (by rw [← z]; exact hy))).mpr (h y (List.mem_cons_of_mem _ hy))
    have e := List.length_erase_of_mem (h x (List.mem_cons_self ..))
    have p := List.length_pos_of_mem (h x (List.mem_cons_self ..))
    rw [List.length_cons]; omega
theorem asc_part {x y : List Str} (ax : x.Pairwise sLt) (ay : y.Pairwise sLt) (h : prt x y = true) (l : y.length ≤ x.length) : x = y := by
  have nx := asc_nodupS ax
  refine (lotS_eq ax fun z => ⟨prt_iff.mp h z, fun hz => ?_⟩).trans (lotS_eq ay fun _ => Iff.rfl).symm
  refine Decidable.byContradiction fun nz => ?_
  have := nodup_len (l := z :: x) (m := y) (List.nodup_cons.mpr ⟨nz, nx⟩) fun w hw => by
    rcases List.mem_cons.mp hw with rfl | hw
    · exact hz
    · exact prt_iff.mp h w hw
  rw [List.length_cons] at this
  omega
theorem prt_trans {x y z : List Str} (h : prt x y = true) (k : prt y z = true) : prt x z = true := prt_iff.mpr fun a m => prt_iff.mp k a (prt_iff.mp h a m)
/-! ### what is kept of a row, one after another -/
section
variable {α : Type} (R : α → α → Bool) (p : α → Bool)
def keepF (L : List α) : List α := L.foldl (fun ks x => if !(ks.any fun y => R y x) && p x then ks ++ [x] else ks) []
variable [DecidableEq α]
def minB (L : List α) (x : α) : Bool := p x && L.all fun y => !(p y && (R y x && !decide (y = x)))
variable {R p}
theorem keepF_snoc (L : List α) (x : α) : keepF R p (L ++ [x]) = if !((keepF R p L).any fun y => R y x) && p x then keepF R p L ++ [x] else keepF R p L := by
  unfold keepF; rw [List.foldl_append]; rfl
theorem keepF_mem : ∀ {L : List α} {x : α}, x ∈ keepF R p L → x ∈ L ∧ p x = true := fun {L} => by
  have : ∀ (r : List α) (x : α), x ∈ keepF R p r.reverse → x ∈ r.reverse ∧ p x = true := fun r => by
    induction r with
    | nil => intro x h; cases h
    | cons a r ih =>
      intro x h
      rw [List.reverse_cons, keepF_snoc] at h
      split at h
      · rename_i c
        rcases List.mem_append.mp h with h | h
        · exact ⟨by rw [List.reverse_cons]; exact List.mem_append_left _ (ih x h).1, (ih x h).2⟩
        · rw [List.mem_singleton.mp h]
          rw [Bool.and_eq_true] at c
          exact ⟨by rw [List.reverse_cons]; exact List.mem_append_right _ (List.mem_singleton.mpr rfl), c.2⟩
      · exact ⟨by rw [List.reverse_cons]; exact List.mem_append_left _ (ih x h).1, (ih x h).2⟩
  intro x h
  have := this L.reverse x (by rwa [List.reverse_reverse])
  rwa [List.reverse_reverse] at this
/-- each wanted one has a kept one below it -/
theorem keepF_below (tr : ∀ x y z, R x y = true → R y z = true → R x z = true) : ∀ (r : List α) (x : α), x ∈ r.reverse → p x = true → ∃ y ∈ keepF R p r.reverse, y = x ∨ R y x = true
  | [], x, h, _ => by cases h
  | a :: r, x, h, hp => by
    rw [List.reverse_cons] at h ⊢
    rw [keepF_snoc]
    rcases List.mem_append.mp h with h | h
    · obtain ⟨y, m, c⟩ := keepF_below tr r x h hp
      refine ⟨y, ?_, c⟩
      split
      · exact List.mem_append_left _ m
      · exact m
    · obtain rfl := List.mem_singleton.mp h
      cases c : (keepF R p r.reverse).any fun y => R y x with
      | true =>
        obtain ⟨y, m, e⟩ := List.any_eq_true.mp c
        rw [if_neg (by simp)]
        exact ⟨y, m, .inr e⟩
      | false =>
        rw [if_pos (by rw [hp]; rfl)]
        exact ⟨x, List.mem_append_right _ (List.mem_singleton.mpr rfl), .inl rfl⟩
theorem keepF_rev (tr : ∀ x y z, R x y = true → R y z = true → R x z = true) : ∀ (r : List α), r.Nodup → r.reverse.Pairwise (fun a b => R b a = false) → keepF R p r.reverse = r.reverse.filter (minB R p r.reverse)
  | [], _, _ => rfl
  | a :: r, nd, pw => by
    rw [List.reverse_cons] at pw ⊢
    obtain ⟨n1, n2⟩ := List.nodup_cons.mp nd
    obtain ⟨p1, _, p3⟩ := List.pairwise_append.mp pw
    have ih := keepF_rev tr r n2 p1
    rw [keepF_snoc, List.filter_append]
    have e1 : r.reverse.filter (minB R p (r.reverse ++ [a])) = r.reverse.filter (minB R p r.reverse) := List.filter_congr fun x hx => by
      unfold minB
      rw [List.all_append]
      have : ([a].all fun y => !(p y && (R y x && !decide (y = x)))) = true := by
        rw [List.all_cons, p3 x hx a (List.mem_singleton.mpr rfl)]
        simp
      rw [this, Bool.and_true]
    rw [e1, ← ih]
    have e2 : minB R p (r.reverse ++ [a]) a = (!((keepF R p r.reverse).any fun y => R y a) && p a) := by
      unfold minB
      rw [List.all_append]
      have : ([a].all fun y => !(p y && (R y a && !decide (y = a)))) = true := by simp
      rw [this, Bool.and_true, Bool.and_comm]
      cases hp : p a with
      | false => rw [Bool.and_false, Bool.and_false]
      | true =>
        rw [Bool.and_true, Bool.and_true, Bool.eq_iff_iff, List.all_eq_true, Bool.not_eq_true', List.any_eq_false]
        constructor
        · intro h y m z
          obtain ⟨m1, m2⟩ := keepF_mem m
          have := h y m1
          rw [m2, z] at this
          simp at this
          rw [this] at m1
          exact n1 (List.mem_reverse.mp m1)
        · intro h y m
          cases hy : p y with
          | false => rfl
          | true =>
            cases hr : R y a with
            | false => rfl
            | true =>
              obtain ⟨z, mz, c⟩ := keepF_below (p := p) tr r y m hy
              exfalso
              rcases c with rfl | c
              · exact h z mz hr
              · exact h z mz (tr z y a c hr)
    rw [← e2]
    cases c : minB R p (r.reverse ++ [a]) a with
    | true => rw [if_pos rfl, List.filter_cons_of_pos c]; rfl
    | false => rw [if_neg (by simp), List.filter_cons_of_neg (by rw [c]; simp)]; simp
theorem keepF_eq (tr : ∀ x y z, R x y = true → R y z = true → R x z = true) {L : List α} (nd : L.Nodup) (pw : L.Pairwise fun a b => R b a = false) : keepF R p L = L.filter (minB R p L) := by
  have := keepF_rev (p := p) tr L.reverse ((List.reverse_perm L).nodup_iff.mpr nd) (by rwa [List.reverse_reverse])
  rwa [List.reverse_reverse] at this
theorem minB_perm {L M : List α} (h : L.Perm M) (x : α) : minB R p L x = minB R p M x := by
  unfold minB
  congr 1
  rw [Bool.eq_iff_iff, List.all_eq_true, List.all_eq_true]
  exact ⟨fun q y m => q y (h.mem_iff.mpr m), fun q y m => q y (h.mem_iff.mp m)⟩
end
/-- the law's: those of the wanted in which no other wanted one lies -/
def minsF {α : Type} [DecidableEq α] (R : α → α → Bool) (ls : List α) : List α := ls.filter fun x => !(ls.any fun y => !decide (y = x) && R y x)
theorem mins_filter {α : Type} [DecidableEq α] {R : α → α → Bool} {p : α → Bool} (L : List α) : minsF R (L.filter p) = L.filter (minB R p L) := by
  unfold minsF
  rw [List.filter_filter]
  refine List.filter_congr fun x _ => ?_
  unfold minB
  rw [Bool.and_comm]
  congr 1
  rw [Bool.eq_iff_iff, Bool.not_eq_true', List.any_eq_false, List.all_eq_true]
  constructor
  · intro h y m
    cases hy : p y with
    | false => rfl
    | true =>
      have := h y (List.mem_filter.mpr ⟨m, hy⟩)
      cases hr : R y x with
      | false => rfl
      | true =>
        rw [hr] at this
        simp at this
        simp [this]
  · intro h y m
    obtain ⟨m1, m2⟩ := List.mem_filter.mp m
    have := h y m1
    rw [m2] at this
    cases hr : R y x with
    | false => simp
    | true =>
      rw [hr] at this
      simp at this
      simp [this]
/-- least_ones over the ordered lots, and the law's least -/
theorem least_eq {ns : List Str} {p : List Str → Bool} : keepF prt p (OL ns) = (minsF prt ((LL (lotS ns)).filter p)).mergeSort kle := by
  have asc : ∀ x ∈ OL ns, x.Pairwise sLt := fun x m => (asc_lotS ns).sublist (mem_OL.mp m)
  have pw : (OL ns).Pairwise fun a b => prt b a = false := by
    have h := (OL_asc ns).and (nodup_OL ns)
    refine h.imp_of_mem fun {a b} ma mb ⟨h1, h2⟩ => ?_
    rw [Bool.eq_false_iff]
    intro z
    exact h2 (asc_part (asc b mb) (asc a ma) z (kle_len h1)).symm
  rw [keepF_eq (R := prt) (fun x y z h k => prt_trans h k) (nodup_OL ns) pw, mins_filter]
  refine sort_uniq kD_inj ?_ ((OL_asc ns).filter _)
  rw [show (LL (lotS ns)).filter (minB prt p (LL (lotS ns))) = (LL (lotS ns)).filter (minB prt p (OL ns)) from List.filter_congr fun x _ => minB_perm (List.mergeSort_perm _ _).symm x]
  exact (List.mergeSort_perm _ _).filter _
def trp (x y : List Str) : Bool := prt y x
theorem great_keep {ns : List Str} {p : List Str → Bool} : keepF trp p (OL ns).reverse = (OL ns).reverse.filter (minB trp p (OL ns).reverse) := by
  have asc : ∀ x ∈ OL ns, x.Pairwise sLt := fun x m => (asc_lotS ns).sublist (mem_OL.mp m)
  have pw : (OL ns).reverse.Pairwise fun a b => trp b a = false := by
    rw [List.pairwise_reverse]
    have h := (OL_asc ns).and (nodup_OL ns)
    refine h.imp_of_mem fun {a b} ma mb ⟨h1, h2⟩ => ?_
    show prt b a = false
    rw [Bool.eq_false_iff]
    intro z
    exact h2 (asc_part (asc b mb) (asc a ma) z (kle_len h1)).symm
  exact keepF_eq (R := trp) (fun x y z a b => prt_trans (x := z) (y := y) (z := x) b a) ((List.reverse_perm _).nodup_iff.mpr (nodup_OL ns)) pw
/-- greatest_ones over the ordered lots, and the law's greatest -/
theorem greatest_eq {ns : List Str} {p : List Str → Bool} : (keepF trp p (OL ns).reverse).mergeSort lle = (minsF trp ((LL (lotS ns)).filter p)).mergeSort lle := by
  have asc : ∀ x ∈ OL ns, x.Pairwise sLt := fun x m => (asc_lotS ns).sublist (mem_OL.mp m)
  have pw : (OL ns).reverse.Pairwise fun a b => trp b a = false := by
    rw [List.pairwise_reverse]
    have h := (OL_asc ns).and (nodup_OL ns)
    refine h.imp_of_mem fun {a b} ma mb ⟨h1, h2⟩ => ?_
    show prt b a = false
    rw [Bool.eq_false_iff]
    intro z
    exact h2 (asc_part (asc b mb) (asc a ma) z (kle_len h1)).symm
  rw [keepF_eq (R := trp) (fun x y z a b => prt_trans (x := z) (y := y) (z := x) b a) ((List.reverse_perm _).nodup_iff.mpr (nodup_OL ns)) pw, mins_filter]
  refine sort_perm lD_inj ?_
  have pm : (OL ns).reverse.Perm (LL (lotS ns)) := (List.reverse_perm _).trans (List.mergeSort_perm _ _)
  rw [show (LL (lotS ns)).filter (minB trp p (LL (lotS ns))) = (LL (lotS ns)).filter (minB trp p (OL ns).reverse) from List.filter_congr fun x _ => minB_perm pm.symm x]
  exact pm.filter _
end Lo

/-! tales thinned to names: parted, surely parted; two names are enough -/
namespace Lo
open PySem PySem.Spec PyProof.Rows L2 St PySem.W
abbrev Lot := List Str
abbrev Tale := List Lot
def thinL (ns l : Lot) : Lot := l.filter fun x => decide (x ∈ ns)
def thinT (ns : Lot) (t : Tale) : Tale := (t.map (thinL ns)).filter fun l => !decide (l = [])
def begB (t o : Tale) : Bool := decide (t.take o.length = o)
def partB (one other : Tale) (ns : Lot) (surely : Bool) : Bool := if surely = true then !begB (thinT ns one) (thinT ns other) && !begB (thinT ns other) (thinT ns one) else !decide (thinT ns one = thinT ns other)
def manyN (h t : Tale) (surely : Bool) : Nat := if surely = true then min h.length t.length else h.length + t.length
def apartB (one other : Tale) (ns : Lot) (surely : Bool) : Bool := !decide ((thinT ns one).take (manyN (thinT ns one) (thinT ns other) surely) = (thinT ns other).take (manyN (thinT ns one) (thinT ns other) surely))
theorem apart_eq (one other : Tale) (ns : Lot) (s : Bool) : apartB one other ns s = partB one other ns s := by
  unfold apartB partB manyN
  generalize thinT ns one = h
  generalize thinT ns other = t
  cases s with
  | false =>
    rw [if_neg (by decide), if_neg (by decide), List.take_of_length_le (by omega), List.take_of_length_le (by omega)]
  | true =>
    rw [if_pos rfl, if_pos rfl, ← Bool.not_or]
    congr 1
    rw [Bool.eq_iff_iff, Bool.or_eq_true]
    unfold begB
    rw [decide_eq_true_iff, decide_eq_true_iff, decide_eq_true_iff]
    rcases Nat.le_total h.length t.length with l | l
    · rw [Nat.min_eq_left l, List.take_of_length_le (Nat.le_refl h.length)]
      constructor
      · intro e; exact .inr e.symm
      · rintro (e | e)
        · rw [List.take_of_length_le l] at e
          rw [e, List.take_of_length_le (Nat.le_refl _)]
        · exact e.symm
    · rw [Nat.min_eq_right l, List.take_of_length_le (Nat.le_refl t.length)]
      constructor
      · intro e; exact .inl e
      · rintro (e | e)
        · exact e
        · rw [List.take_of_length_le l] at e
          rw [← e, List.take_of_length_le (Nat.le_refl _)]
theorem part_symm (one other : Tale) (ns : Lot) (s : Bool) : partB other one ns s = partB one other ns s := by
  unfold partB
  cases s with
  | false =>
    rw [if_neg (by decide), if_neg (by decide)]
    congr 1
    exact decide_eq_decide.mpr eq_comm
  | true => rw [if_pos rfl, if_pos rfl, Bool.and_comm]
theorem thinL_sub (ns l : Lot) : (thinL ns l).Sublist l := List.filter_sublist
theorem thinT_app (ns : Lot) (a b : Tale) : thinT ns (a ++ b) = thinT ns a ++ thinT ns b := by
  unfold thinT; rw [List.map_append, List.filter_append]
theorem thinT_cons (ns : Lot) (l : Lot) (r : Tale) (h : thinL ns l ≠ []) : thinT ns (l :: r) = thinL ns l :: thinT ns r := by
  unfold thinT
  rw [List.map_cons, List.filter_cons_of_pos (by simp [h])]
theorem thinL_thin {ns ms l : Lot} (h : ∀ x ∈ ms, x ∈ ns) : thinL ms (thinL ns l) = thinL ms l := by
  unfold thinL
  rw [List.filter_filter]
  refine List.filter_congr fun x _ => ?_
  by_cases c : x ∈ ms
  · simp [c, h x c]
  · simp [c]
theorem thinT_thin {ns ms : Lot} (h : ∀ x ∈ ms, x ∈ ns) : ∀ t : Tale, thinT ms (thinT ns t) = thinT ms t
  | [] => rfl
  | l :: t => by
    have ih := thinT_thin h t
    by_cases c : thinL ns l = []
    · have e1 : thinT ns (l :: t) = thinT ns t := by
        unfold thinT
        rw [List.map_cons, List.filter_cons_of_neg (by simp [c])]
      have e2 : thinL ms l = [] := by rw [← thinL_thin h, c]; rfl
      have e3 : thinT ms (l :: t) = thinT ms t := by
        unfold thinT
        rw [List.map_cons, List.filter_cons_of_neg (by simp [e2])]
      rw [e1, ih, e3]
    · rw [thinT_cons ns l t c]
      have e : ∀ r : Tale, thinT ms (thinL ns l :: r) = thinT ms [l] ++ thinT ms r := fun r => by
        rw [show thinL ns l :: r = [thinL ns l] ++ r from rfl, thinT_app]
        congr 1
        unfold thinT
        rw [List.map_singleton, List.map_singleton, thinL_thin h]
      rw [e, ih, ← thinT_app]; rfl
/-- two unlike rows: the first place -/
theorem first_diff : ∀ (h t : Tale), h ≠ t → (∃ c A r B r', h = c ++ A :: r ∧ t = c ++ B :: r' ∧ A ≠ B) ∨ (∃ A r, h = t ++ A :: r) ∨ ∃ A r, t = h ++ A :: r
  | [], [], n => absurd rfl n
  | [], b :: t, _ => .inr (.inr ⟨b, t, rfl⟩)
  | a :: h, [], _ => .inr (.inl ⟨a, h, rfl⟩)
  | a :: h, b :: t, n => by
    by_cases c : a = b
    · subst c
      rcases first_diff h t (fun e => n (by rw [e])) with ⟨c, A, r, B, r', e1, e2, ne⟩ | ⟨A, r, e⟩ | ⟨A, r, e⟩
      · exact .inl ⟨a :: c, A, r, B, r', by rw [e1]; rfl, by rw [e2]; rfl, ne⟩
      · exact .inr (.inl ⟨A, r, by rw [e]; rfl⟩)
      · exact .inr (.inr ⟨A, r, by rw [e]; rfl⟩)
    · exact .inl ⟨[], a, h, b, t, rfl, rfl, c⟩
theorem beg_no {c r r' : Tale} {A B : Lot} (ne : A ≠ B) : begB (c ++ A :: r) (c ++ B :: r') = false := by
  unfold begB
  refine decide_eq_false fun e => ne ?_
  have e1 := congrArg (fun l : Tale => l[c.length]?) e
  have e1 : ((c ++ A :: r).take (c ++ B :: r').length)[c.length]? = (c ++ B :: r')[c.length]? := e1
  rw [List.getElem?_take_of_lt (by rw [List.length_append, List.length_cons]; omega), List.getElem?_append_right (Nat.le_refl _), List.getElem?_append_right (Nat.le_refl _), Nat.sub_self] at e1
  exact Option.some.inj e1
theorem part_of {one other : Tale} {ns : Lot} {c r r' : Tale} {A B : Lot} (h : thinT ns one = c ++ A :: r) (t : thinT ns other = c ++ B :: r') (ne : A ≠ B) (s : Bool) : partB one other ns s = true := by
  unfold partB
  rw [h, t]
  cases s with
  | true => rw [if_pos rfl, beg_no ne, beg_no (Ne.symm ne)]; rfl
  | false =>
    rw [if_neg (by decide), Bool.not_eq_true', decide_eq_false_iff_not]
    intro e
    have := beg_no (c := c) (r := r) (r' := r') ne
    unfold begB at this
    rw [decide_eq_false_iff_not] at this
    exact this (by rw [e, List.take_of_length_le (Nat.le_refl _)])
theorem thin_in {ns l : Lot} {x : Str} : x ∈ thinL ns l ↔ x ∈ l ∧ x ∈ ns := by unfold thinL; rw [List.mem_filter, decide_eq_true_iff]
theorem thin_ne {t : Tale} {ns A : Lot} (m : A ∈ thinT ns t) : A ≠ [] ∧ ∃ l ∈ t, A = thinL ns l := by
  obtain ⟨m1, m2⟩ := List.mem_filter.mp m
  obtain ⟨l, hl, e⟩ := List.mem_map.mp m1
  exact ⟨by simpa using m2, l, hl, e.symm⟩
/-- two names are enough -/
theorem two_names {one other : Tale} {x : Lot} {s : Bool} (ok : ∀ l ∈ one ++ other, l.Pairwise sLt) (ax : x.Nodup) (hp : partB one other x s = true) : ∃ y : Lot, y.Sublist x ∧ y.length ≤ 2 ∧ partB one other y s = true := by
  have ascT : ∀ A ∈ thinT x one ++ thinT x other, A ≠ [] ∧ A.Pairwise sLt ∧ ∀ z ∈ A, z ∈ x := fun A m => by
    rcases List.mem_append.mp m with m | m
    · obtain ⟨n, l, hl, rfl⟩ := thin_ne m
      exact ⟨n, (ok l (List.mem_append_left _ hl)).sublist (thinL_sub x l), fun z hz => (thin_in.mp hz).2⟩
    · obtain ⟨n, l, hl, rfl⟩ := thin_ne m
      exact ⟨n, (ok l (List.mem_append_right _ hl)).sublist (thinL_sub x l), fun z hz => (thin_in.mp hz).2⟩
  have len2 : ∀ a b : Str, (x.filter fun z => decide (z ∈ [a, b])).length ≤ 2 := fun a b =>
    nodup_len (l := x.filter fun z => decide (z ∈ [a, b])) (m := [a, b]) (ax.sublist List.filter_sublist) fun z hz => of_decide_eq_true (List.mem_filter.mp hz).2
  have main : ∀ (one other : Tale) (c r r' : Tale) (A B : Lot) (a : Str), (∀ A ∈ thinT x one ++ thinT x other, A ≠ [] ∧ A.Pairwise sLt ∧ ∀ z ∈ A, z ∈ x) → thinT x one = c ++ A :: r → thinT x other = c ++ B :: r' → a ∈ A → a ∉ B → ∃ y : Lot, y.Sublist x ∧ y.length ≤ 2 ∧ ∀ s, partB one other y s = true := fun one other c r r' A B a ok e1 e2 ha hb => by
    obtain ⟨_, _, pA⟩ := ok A (List.mem_append_left _ (by rw [e1]; simp))
    obtain ⟨nB, _, pB⟩ := ok B (List.mem_append_right _ (by rw [e2]; simp))
    obtain ⟨b, hbB⟩ : ∃ b, b ∈ B := by cases B with | nil => exact absurd rfl nB | cons b _ => exact ⟨b, .head _⟩
    let y := x.filter fun z => decide (z ∈ [a, b])
    have my : ∀ z, z ∈ y ↔ z ∈ x ∧ z ∈ [a, b] := fun z => by
      show z ∈ x.filter _ ↔ _
      rw [List.mem_filter, decide_eq_true_iff]
    have sub : ∀ z ∈ y, z ∈ x := fun z hz => ((my z).mp hz).1
    have ay : a ∈ y := (my a).mpr ⟨pA a ha, by simp⟩
    have by_ : b ∈ y := (my b).mpr ⟨pB b hbB, by simp⟩
    have nA : thinL y A ≠ [] := fun z => by
      have : a ∈ thinL y A := thin_in.mpr ⟨ha, ay⟩
      rw [z] at this; cases this
    have nB' : thinL y B ≠ [] := fun z => by
      have : b ∈ thinL y B := thin_in.mpr ⟨hbB, by_⟩
      rw [z] at this; cases this
    have ne : thinL y A ≠ thinL y B := fun z => by
      have : a ∈ thinL y A := thin_in.mpr ⟨ha, ay⟩
      rw [z] at this
      exact hb (thin_in.mp this).1
    refine ⟨y, List.filter_sublist, len2 a b, fun s => part_of (c := thinT y c) (r := thinT y r) (r' := thinT y r') ?_ ?_ ne s⟩
    · rw [← thinT_thin sub, e1, thinT_app, thinT_cons _ _ _ nA]
    · rw [← thinT_thin sub, e2, thinT_app, thinT_cons _ _ _ nB']
  have ne : thinT x one ≠ thinT x other := fun e => by
    unfold partB begB at hp
    rw [e, List.take_of_length_le (Nat.le_refl _)] at hp
    cases s <;> simp at hp
  rcases first_diff _ _ ne with ⟨c, A, r, B, r', e1, e2, nAB⟩ | h
  · obtain ⟨_, aA, _⟩ := ascT A (List.mem_append_left _ (by rw [e1]; simp))
    obtain ⟨_, aB, _⟩ := ascT B (List.mem_append_right _ (by rw [e2]; simp))
    by_cases hA : ∃ a ∈ A, a ∉ B
    · obtain ⟨a, h1, h2⟩ := hA
      obtain ⟨y, s1, s2, s3⟩ := main one other c r r' A B a ascT e1 e2 h1 h2
      exact ⟨y, s1, s2, s3 s⟩
    · have sAB : ∀ z ∈ A, z ∈ B := fun z hz => Decidable.byContradiction fun n => hA ⟨z, hz, n⟩
      have hB : ∃ b ∈ B, b ∉ A := by
        refine Classical.byContradiction fun n => nAB ?_
        have sBA : ∀ z ∈ B, z ∈ A := fun z hz => Decidable.byContradiction fun m => n ⟨z, hz, m⟩
        exact (lotS_eq aA fun z => ⟨sAB z, sBA z⟩).trans (lotS_eq aB fun _ => Iff.rfl).symm
      obtain ⟨b, h1, h2⟩ := hB
      obtain ⟨y, s1, s2, s3⟩ := main other one c r' r B A b (fun Z m => ascT Z (by simp only [List.mem_append] at m ⊢; exact m.symm)) e2 e1 h1 h2
      exact ⟨y, s1, s2, by rw [← part_symm]; exact s3 s⟩
  · cases s with
    | true =>
      exfalso
      unfold partB begB at hp
      rcases h with ⟨A, r, e⟩ | ⟨A, r, e⟩ <;> rw [e] at hp <;> simp at hp
    | false =>
      have fin : ∀ (one other : Tale) (A : Lot) (r : Tale), thinT x one = thinT x other ++ A :: r → A ≠ [] → (∀ z ∈ A, z ∈ x) → ∃ y : Lot, y.Sublist x ∧ y.length ≤ 2 ∧ partB one other y false = true := fun one other A r e nA pA => by
        obtain ⟨a, ha⟩ : ∃ a, a ∈ A := by cases A with | nil => exact absurd rfl nA | cons a _ => exact ⟨a, .head _⟩
        let y := x.filter fun z => decide (z ∈ [a, a])
        have my : ∀ z, z ∈ y ↔ z ∈ x ∧ z ∈ [a, a] := fun z => by
          show z ∈ x.filter _ ↔ _
          rw [List.mem_filter, decide_eq_true_iff]
        have sub : ∀ z ∈ y, z ∈ x := fun z hz => ((my z).mp hz).1
        have nA : thinL y A ≠ [] := fun z => by
          have : a ∈ thinL y A := thin_in.mpr ⟨ha, (my a).mpr ⟨pA a ha, by simp⟩⟩
          rw [z] at this; cases this
        refine ⟨y, List.filter_sublist, len2 a a, ?_⟩
        unfold partB
        rw [if_neg (by decide), Bool.not_eq_true', decide_eq_false_iff_not]
        intro q
        rw [← thinT_thin sub one, e, thinT_app, thinT_thin sub, thinT_cons _ _ _ nA] at q
        have := congrArg List.length q
        simp at this
      rcases h with ⟨A, r, e⟩ | ⟨A, r, e⟩
      · obtain ⟨n, _, p⟩ := ascT A (List.mem_append_left _ (by rw [e]; simp))
        exact fin one other A r e n p
      · obtain ⟨n, _, p⟩ := ascT A (List.mem_append_right _ (by rw [e]; simp))
        obtain ⟨y, s1, s2, s3⟩ := fin other one A r e n p
        exact ⟨y, s1, s2, by rw [← part_symm]; exact s3⟩
/-- none of the least has more than two names -/
theorem least_two {one other : Tale} {ns : Lot} {s : Bool} (ok : ∀ l ∈ one ++ other, l.Pairwise sLt) : ∀ x ∈ minsF prt ((LL (lotS ns)).filter fun l => partB one other l s), x.length ≤ 2 := fun x m => by
  unfold minsF at m
  obtain ⟨m1, m2⟩ := List.mem_filter.mp m
  obtain ⟨m3, m4⟩ := List.mem_filter.mp m1
  have sx := mem_LL.mp m3
  obtain ⟨y, s1, s2, s3⟩ := two_names ok ((asc_nodupS (asc_lotS ns)).sublist sx) m4
  rw [Bool.not_eq_true', List.any_eq_false] at m2
  have := m2 y (List.mem_filter.mpr ⟨mem_LL.mpr (s1.trans sx), s3⟩)
  have e : prt y x = true := prt_iff.mpr fun z hz => s1.subset hz
  rw [e] at this
  simp at this
  rw [← this]; exact s2
/-- the first lot heard unlike -/
def idxF (h t : Tale) : Option Nat := (List.range (h.length + t.length)).find? fun i => !decide ((h.drop i).take 1 = (t.drop i).take 1)
theorem idx_some {h t : Tale} (ne : h ≠ t) : ∃ i, idxF h t = some i := by
  rcases first_diff h t ne with ⟨c, A, r, B, r', e1, e2, n⟩ | ⟨A, r, e⟩ | ⟨A, r, e⟩
  · refine Option.isSome_iff_exists.mp (List.find?_isSome.mpr ⟨c.length, ?_, ?_⟩)
    · rw [List.mem_range, e1, List.length_append, List.length_cons]; omega
    · rw [e1, e2, List.drop_left, List.drop_left]
      simpa using n
  · refine Option.isSome_iff_exists.mp (List.find?_isSome.mpr ⟨t.length, ?_, ?_⟩)
    · rw [List.mem_range, e, List.length_append, List.length_cons]; omega
    · rw [e, List.drop_left, List.drop_length]; simp
  · refine Option.isSome_iff_exists.mp (List.find?_isSome.mpr ⟨h.length, ?_, ?_⟩)
    · rw [List.mem_range, e, List.length_append, List.length_cons]; omega
    · rw [e, List.drop_left, List.drop_length]; simp
theorem idx_none {h t : Tale} (e : h = t) : idxF h t = none := by
  unfold idxF
  rw [List.find?_eq_none, e]
  intro i _
  simp
end Lo

namespace K6
open PySem PySem.Spec PyProof.Rows L2 Hb St Sq Ow En Zp RZ Rd
def top (i : Nat) : Stmt := PySem.Challenge.pw_curvebells_k93_one_tone_or_two.main.body.getD i (.Pass ⟨0, 0, 0, 0⟩)
/-! ### any values, by their data -/
def tyD : PyData → Value
  | .none => .type "NoneType"
  | .bool _ => .type "bool"
  | .int _ => .type "int"
  | .str _ => .type "str"
  | .list _ => .type "list"
  | .tuple _ => .type "tuple"
  | _ => .type "dict"
theorem ty_lst {K : PySem.W.Frag} {H : Hp} {a : Addr} {xs : List V} (h : SqL K H a xs) : TyX K H (.ref a) (.type "list") := by
  rcases h with (e | ⟨o, e⟩) | ⟨o, its, n, e, c, _⟩
  · exact .base (.lst e)
  · exact .base (.frz e)
  · exact .kList e c
theorem ty_tup {K : PySem.W.Frag} {H : Hp} {a : Addr} {xs : List V} (h : SqT K H a xs) : TyX K H (.ref a) (.type "tuple") := by
  rcases h with (e | ⟨o, e⟩) | ⟨o, its, n, e, c, _⟩
  · exact .base (.tup e)
  · exact .fTuple e
  · exact .kTuple e c
theorem ty_dp {K : PySem.W.Frag} {H : Hp} {v : V} {d : PyData} (h : Dp K H v d) : TyX K H v (tyD d) := by
  cases h with
  | non => exact .base .non
  | bl b => exact .base (.bl b)
  | int i => exact .base (.int i)
  | str x => exact .base (.str x)
  | lst h _ => exact ty_lst h
  | tup h _ => exact ty_tup h
def isStrD : PyData → Bool
  | .str _ => true
  | _ => false
def isTupD : PyData → Bool
  | .tuple _ => true
  | _ => false
theorem kit_str {K : PySem.W.Frag} {H : Hp} {v : V} {d : PyData} (h : Dp K H v d) : PySem.W.kitOne K (tyD d) (.type "str") = some (isStrD d) := by
  cases h with
  | non => exact kit_ty (a := "NoneType") (b := "str") (r := false) (by decide +kernel)
  | bl b => exact kit_ty (a := "bool") (b := "str") (r := false) (by decide +kernel)
  | int i => exact kit_ty (a := "int") (b := "str") (r := false) (by decide +kernel)
  | str x => exact kit_ty (a := "str") (b := "str") (r := true) (by decide +kernel)
  | lst _ _ => exact kit_ty (a := "list") (b := "str") (r := false) (by decide +kernel)
  | tup _ _ => exact kit_ty (a := "tuple") (b := "str") (r := false) (by decide +kernel)
theorem kit_tup {K : PySem.W.Frag} {H : Hp} {v : V} {d : PyData} (h : Dp K H v d) : PySem.W.kitOne K (tyD d) (.type "tuple") = some (isTupD d) := by
  cases h with
  | non => exact kit_ty (a := "NoneType") (b := "tuple") (r := false) (by decide +kernel)
  | bl b => exact kit_ty (a := "bool") (b := "tuple") (r := false) (by decide +kernel)
  | int i => exact kit_ty (a := "int") (b := "tuple") (r := false) (by decide +kernel)
  | str x => exact kit_ty (a := "str") (b := "tuple") (r := false) (by decide +kernel)
  | lst _ _ => exact kit_ty (a := "list") (b := "tuple") (r := false) (by decide +kernel)
  | tup _ _ => exact kit_ty (a := "tuple") (b := "tuple") (r := true) (by decide +kernel)
theorem dpa_all {K : PySem.W.Frag} {H : Hp} : ∀ {xs : List V} {ds : List PyData}, DpAll K H xs ds → All2 (Dp K H) xs ds
  | _, _, .nil => .nil
  | _, _, .cons h t => .cons h (dpa_all t)
mutual
theorem dp_same {K : PySem.W.Frag} {H H' : Hp} (s : Same H H') : ∀ {d : PyData} {v : V}, Dp K H v d → Dp K H' v d
  | _, _, .non => .non
  | _, _, .bl b => .bl b
  | _, _, .int i => .int i
  | _, _, .str x => .str x
  | _, _, .lst h a => .lst (lstSame s h) (dpa_same s a)
  | _, _, .tup h a => .tup (tupFix (Fix.of s) h) (dpa_same s a)
theorem dpa_same {K : PySem.W.Frag} {H H' : Hp} (s : Same H H') : ∀ {ds : List PyData} {xs : List V}, DpAll K H xs ds → DpAll K H' xs ds
  | _, _, .nil => .nil
  | _, _, .cons h t => .cons (dp_same s h) (dpa_same s t)
end
/-- whether a text is a name -/
def nmB (x : Str) : Bool := decide (x.length ≤ 8) && (Txt.isascii x && (Txt.isalpha x && Txt.islower x))
def nmD : PyData → Bool
  | .str x => nmB x
  | _ => false
/-- texts that are short -/
def ShortD : PyData → Prop
  | .str x => x.length ≤ 1000
  | _ => True
theorem inV_strs (x : Str) (ns : List Str) : inV (.str x) (ns.map V.str) = decide (x ∈ ns) := by
  unfold inV
  rw [List.any_map]
  induction ns with
  | nil => simp
  | cons y r ih =>
    rw [List.any_cons, ih]
    show (eqV (.str y) (.str x) || decide (x ∈ r)) = _
    have e : eqV (.str y) (.str x) = decide (x = y) := by
      show decide (_ = _) = _
      exact decide_eq_decide.mpr ⟨fun h => h.symm, fun h => h.symm⟩
    rw [e]
    simp [List.mem_cons]
theorem flat_strs (ns : List Str) : (ns.map V.str).all flatV = true := by rw [List.all_map]; exact List.all_eq_true.mpr fun _ _ => rfl
theorem in_strs {K : PySem.W.Frag} {H : Hp} {a : Addr} {ns : List Str} {x : Str} {Q : VK} (h : SqX K H a (ns.map V.str)) (q : Q (.bl (decide (x ∈ ns))) H) : rIn K false (.str x) (.ref a) H Q :=
  ⟨a, _, rfl, h, rfl, flat_strs ns, by rw [inV_strs]; exact q⟩
section
variable {P : Program} {w : World} {K : PySem.W.Frag} {mg : Str → Option Value} {base : Heap}
/-! ### is_name -/
abbrev s_is_name : Stmt := top 9
theorem sc_is_name : FnScope ["value"] ["value"] (defScope s_is_name) := ⟨rfl, rfl, rfl, by decide +kernel, rfl, by decide +kernel, by decide +kernel⟩
def spIsName (K : PySem.W.Frag) : Sp := fun vs H Q _ => ∃ (v : V) (d : PyData), vs = [v] ∧ Dp K H v d ∧ ShortD d ∧ Q (.bl (nmD d)) H
theorem ok_is_name {f : Addr} {fd : FuncData} (F : Fun K "is_name" "is_name" s_is_name f fd) {tk : Tok} (g_LETTERS : mg "LETTERS" = some (.int 8 tk)) (n_isinstance : mg "isinstance" = none) (n_len : mg "len" = none) (n_str : mg "str" = none) : FnOk P w K mg base CX0 1 f fd ["value"] (spIsName K) := by
  refine F.ok sc_is_name (fun vs H Q E h => ?_) (fun cdv A outer s H vs Q E hr h => ?_)
  · obtain ⟨_, _, rfl, _⟩ := h
    rfl
  · obtain ⟨v, d, rfl, hv, sh, q⟩ := h
    refine ⟨_, (Evl.pss_cut (ps_if (PW.pt (pw_or (pt_not (pt_val (pe_callB call_isi (by rfl) n_isinstance (by decide +kernel) (pa_cons (pv 0) (pa_cons (pe_bltn (v := .ty "str") (by rfl) n_str (by decide +kernel) rfl) pa_nil))))) (pw_or1 (pt_cmpR op_gt (pe_callB call_len_str (by rfl) n_len PySem.boot_len (pa_cons (pv 0) pa_nil)) (pe_glob (v := .int 8) rfl g_LETTERS ⟨_, rfl⟩) (nomark _))))) (pss_one (ps_ret pe_bl)) pss_nil)
    (pss_one (ps_ret (pe_and (pe_bm0 PySem.F.plainAttrs_str PySem.F.slot_str_isascii PySem.F.type_str_isascii mt_isascii (pv 0)) (pe_and (pe_bm0 PySem.F.plainAttrs_str PySem.F.slot_str_isalpha PySem.F.type_str_isalpha mt_isalpha (pv 0)) (pe_one (pe_bm0 PySem.F.plainAttrs_str PySem.F.slot_str_islower PySem.F.type_str_islower mt_islower (pv 0)))))))), ?_⟩
    have ty := ty_dp hv
    have kt := kit_str hv
    cases hv with
    | str x =>
      have sh : x.length ≤ 1000 := sh
      have q : Q (.bl (nmB x)) H := q
      refine ⟨fun σ H' => σ = [some (.str x)] ∧ H' = H ∧ x.length ≤ 8, ?_, ?_⟩
      · refine ⟨_, rfl, .str x, .ty "str", _, _, _, rfl, .ty "str", ty, kt, true, rfl, iteF ?_⟩
        refine ⟨_, rfl, _, rfl, by rw [sizeLine_eq]; omega, _, _, rfl, rfl, _, rfl, ?_⟩
        by_cases c : x.length ≤ 8
        · rw [decide_eq_false (by omega)]
          exact iteF ⟨rfl, rfl, c⟩
        · rw [decide_eq_true (by omega)]
          refine iteT ?_
          have : nmB x = false := by unfold nmB; rw [decide_eq_false c]; rfl
          rw [this] at q
          exact q
      rintro σ H' ⟨rfl, rfl, c⟩
      unfold nmB at q
      rw [decide_eq_true c, Bool.true_and] at q
      refine ⟨_, rfl, rfl, _, rfl, rfl, trivial, _, rfl, ?_⟩
      cases c1 : Txt.isascii x with
      | false => rw [c1] at q; exact iteF q
      | true =>
        rw [c1, Bool.true_and] at q
        refine iteT ⟨_, rfl, rfl, _, rfl, rfl, trivial, _, rfl, ?_⟩
        cases c2 : Txt.isalpha x with
        | false => rw [c2] at q; exact iteF q
        | true =>
          rw [c2, Bool.true_and] at q
          exact iteT ⟨_, rfl, rfl, _, rfl, rfl, trivial, q⟩
    | _ =>
      exact ⟨fun _ _ => False, ⟨_, rfl, _, .ty "str", _, _, _, rfl, .ty "str", ty, kt, _, rfl, iteT q⟩, fun _ _ h => h.elim⟩
/-! ### thin_lot -/
abbrev s_thin_lot : Stmt := top 13
theorem sc_thin_lot : FnScope ["lot", "names", "name"] ["lot", "names"] (defScope s_thin_lot) := ⟨rfl, rfl, rfl, by decide +kernel, rfl, by decide +kernel, by decide +kernel⟩
def spThin (K : PySem.W.Frag) : Sp := fun vs H Q _ => ∃ (a b : Addr) (xs ys : List Str), vs = [.ref a, .ref b] ∧ SqT K H a (xs.map V.str) ∧ SqX K H b (ys.map V.str) ∧ xs.length ≤ 1000 ∧ ∀ p H', Same H H' → H' p = some (.tup ((xs.filter fun x => decide (x ∈ ys)).map V.str)) → Q (.ref p) H'
theorem ok_thin_lot {f : Addr} {fd : FuncData} (F : Fun K "thin_lot" "thin_lot" s_thin_lot f fd) (n_tuple : mg "tuple" = none) : FnOk P w K mg base CX0 1 f fd ["lot", "names"] (spThin K) := by
  refine F.ok sc_thin_lot (fun vs H Q E h => ?_) (fun cdv A outer s H vs Q E hr h => ?_)
  · obtain ⟨_, _, _, _, rfl, _⟩ := h
    rfl
  · obtain ⟨a, b, xs, ys, rfl, ha, hb, l, q⟩ := h
    refine ⟨_, (pss_one (ps_ret (pe_callTy call_tuple_of (by rfl) n_tuple (by decide +kernel) (pa_cons (pe_lc (own := [("name", 2)]) (g := gName 2) rfl sc_thin_lot.nd (pi_seq (pv 0)) (blkOk_by (N := ["lot", "names", "name"]) (sc := defScope s_thin_lot) (by decide +kernel)) (fun _ _ _ _ _ => pg_name (i := 2) sc_thin_lot.nd rfl (Or.inl rfl)) (fun _ _ _ _ _ => pts_one (pt_cmpR (r := rIn K false) op_in_seq (pv 2) (pv 1) rfl)) (fun _ _ _ _ _ => pv 2)) pa_nil)))), ?_⟩
    refine ⟨_, rfl, a, _, rfl, .inr ha, fun J S W s0 D hD => ?_⟩
    refine lc_mf (ds := xs) W (fun x => decide (x ∈ ys)) (fun _ y d => y = .str d) s0 hD (by simp) (fun i x d H' ex ed s m => ?_) (fun H' zs s e al => ?_)
    · rw [at_map ex ed]
      refine ⟨rfl, _, rfl, _, rfl, in_strs (sqxSame s hb) ⟨_, rfl, ?_⟩⟩
      cases c : decide (d ∈ ys) with
      | true => exact iteT ⟨_, rfl, mf_yes m hD (fun _ _ _ _ _ h => h) ed (by omega) (Same.refl _) c rfl⟩
      | false => exact iteF (mf_no m (fun _ _ _ _ _ h => h) ed (Same.refl _) c)
    · have ez := al.map_eq (f := V.str) fun _ _ h => h
      rw [ez] at e
      exact ⟨D, _, rfl, .inl ⟨SqL.of e, fun l hl => q l _ (s.trans (same_new hl _)) upd_same⟩⟩
/-! ### is_part -/
/-- whether all of a lot is in another one -/
abbrev prt := @Lo.prt
theorem prt_len (xs ys : List Str) : (decide (V.int ((xs.filter fun x => decide (x ∈ ys)).length : Nat) = V.int (xs.length : Nat))) = prt xs ys := by
  unfold prt Lo.prt
  rw [Bool.eq_iff_iff, decide_eq_true_iff, List.all_eq_true]
  constructor
  · intro e
    rw [← List.length_filter_eq_length_iff]
    injection e with e
    exact Int.ofNat_inj.mp e
  · intro e
    rw [List.length_filter_eq_length_iff.mpr e]
abbrev s_is_part : Stmt := top 20
theorem sc_is_part : FnScope ["lot", "other"] ["lot", "other"] (defScope s_is_part) := ⟨rfl, rfl, rfl, by decide +kernel, rfl, by decide +kernel, by decide +kernel⟩
def spPart (K : PySem.W.Frag) : Sp := fun vs H Q _ => ∃ (a b : Addr) (xs ys : List Str), vs = [.ref a, .ref b] ∧ SqT K H a (xs.map V.str) ∧ SqT K H b (ys.map V.str) ∧ xs.length ≤ 1000 ∧ ∀ H', Same H H' → Q (.bl (prt xs ys)) H'
theorem ok_is_part {f : Addr} {fd : FuncData} (F : Fun K "is_part" "is_part" s_is_part f fd) (C_thin_lot : Cl P w K mg base "thin_lot" ["lot", "names"] [] 1 (spThin K)) (n_len : mg "len" = none) : FnOk P w K mg base CX0 2 f fd ["lot", "other"] (spPart K) := by
  refine F.ok sc_is_part (fun vs H Q E h => ?_) (fun cdv A outer s H vs Q E hr h => ?_)
  · obtain ⟨_, _, _, _, rfl, _⟩ := h
    rfl
  · obtain ⟨a, b, xs, ys, rfl, ha, hb, l, q⟩ := h
    refine ⟨_, (pss_one (ps_ret (pe_cmpR op_eq (pe_callB call_len_seq (by rfl) n_len PySem.boot_len (pa_cons (pe_use C_thin_lot (hr.mono (by decide)) rfl (pa_cons (pv 0) (pa_cons (pv 1) pa_nil))) pa_nil)) (pe_callB call_len_seq (by rfl) n_len PySem.boot_len (pa_cons (pv 0) pa_nil)) (nomark _)))), ?_⟩
    refine ⟨_, rfl, _, rfl, a, b, xs, ys, rfl, ha, .inr hb, l, fun p H' s e => ?_⟩
    refine ⟨p, _, rfl, .inr (SqT.of e), _, rfl, a, _, rfl, .inr (tupFix (Fix.of s) ha), ?_⟩
    refine ⟨rfl, ?_⟩
    rw [List.length_map, List.length_map, prt_len]
    exact q H' s
end
end K6

namespace K6
open PySem PySem.Spec PyProof.Rows L2 Hb St Sq Ow En Zp RZ Rd
/-! ### lots and tales, of any data -/
def ascD : List PyData → Bool
  | .str x :: .str y :: r => decide (x.cps.toList < y.cps.toList) && ascD (.str y :: r)
  | _ => true
def lotD : PyData → Bool
  | .tuple ds => !ds.isEmpty && (ds.all nmD && ascD ds)
  | _ => false
def taleD : PyData → Bool
  | .tuple ds => ds.all lotD
  | _ => false
def ltD : PyData × PyData → Bool
  | (.str x, .str y) => decide (x.cps.toList < y.cps.toList)
  | _ => true
theorem nm_str {d : PyData} (h : nmD d = true) : ∃ x, d = .str x ∧ nmB x = true := by
  cases d with
  | str x => exact ⟨x, rfl, h⟩
  | _ => cases h
theorem asc_zip : ∀ (d : PyData) (ds : List PyData), (d :: ds).all nmD = true → (((d :: ds).zip ds).all ltD) = ascD (d :: ds)
  | d, [], h => by
    obtain ⟨x, rfl, _⟩ := nm_str (List.all_eq_true.mp h d List.mem_cons_self)
    rfl
  | d, e :: ds, h => by
    obtain ⟨x, rfl, _⟩ := nm_str (List.all_eq_true.mp h d List.mem_cons_self)
    have h' : (e :: ds).all nmD = true := by
      rw [List.all_cons, Bool.and_eq_true] at h
      exact h.2
    obtain ⟨y, rfl, _⟩ := nm_str (List.all_eq_true.mp h' e List.mem_cons_self)
    have ih := asc_zip (.str y) ds h'
    rw [List.zip_cons_cons, List.all_cons, ih]
    rfl
theorem bl_map {α : Type} {ys : List V} {ds : List α} {f : α → Bool} (h : All2 (fun (y : V) (d : α) => y = .bl (f d)) ys ds) : ys = (ds.map f).map V.bl := by
  rw [List.map_map]
  exact h.map_eq fun a b e => e
theorem at2 {α β : Type} {R : α → β → Prop} {as : List α} {bs : List β} (h : All2 R as bs) {i : Nat} {a : α} {b : β} (ha : as[i]? = some a) (hb : bs[i]? = some b) : R a b := by
  obtain ⟨b', hb', r⟩ := h.get ha
  rw [hb] at hb'
  rw [Option.some.inj hb']
  exact r
theorem all_map {α : Type} (f : α → Bool) (l : List α) : (l.map f).all id = l.all f := by
  rw [List.all_map]; rfl
section
variable {P : Program} {w : World} {K : PySem.W.Frag} {mg : Str → Option Value} {base : Heap}
/-! ### is_lot -/
abbrev s_is_lot : Stmt := top 16
theorem sc_is_lot : FnScope ["value", "one", "other", "name"] ["value"] (defScope s_is_lot) := ⟨rfl, rfl, rfl, by decide +kernel, rfl, by decide +kernel, by decide +kernel⟩
/-- data with short rows and texts -/
def Sm1 : PyData → Prop
  | .tuple ds => ds.length ≤ 1000 ∧ ∀ d ∈ ds, ShortD d
  | _ => True
def spIsLot (K : PySem.W.Frag) : Sp := fun vs H Q _ => ∃ (v : V) (d : PyData), vs = [v] ∧ Dp K H v d ∧ Sm1 d ∧ ∀ H', Same H H' → Q (.bl (lotD d)) H'
theorem ok_is_lot {f : Addr} {fd : FuncData} (F : Fun K "is_lot" "is_lot" s_is_lot f fd) (C_is_name : Cl P w K mg base "is_name" ["value"] [] 1 (spIsName K)) (n_all : mg "all" = none) (n_isinstance : mg "isinstance" = none) (n_len : mg "len" = none) (n_tuple : mg "tuple" = none) (n_zip : mg "zip" = none) : FnOk P w K mg base CX0 2 f fd ["value"] (spIsLot K) := by
  refine F.ok sc_is_lot (fun vs H Q E h => ?_) (fun cdv A outer s H vs Q E hr h => ?_)
  · obtain ⟨_, _, rfl, _⟩ := h
    rfl
  · obtain ⟨v, d, rfl, hv, sm, q⟩ := h
    refine ⟨_, (Evl.pss_cut (ps_if (PW.pt (pw_or (pt_not (pt_val (pe_callB call_isi (by rfl) n_isinstance (by decide +kernel) (pa_cons (pv 0) (pa_cons (pe_bltn (v := .ty "tuple") (by rfl) n_tuple (by decide +kernel) rfl) pa_nil))))) (pw_or (pt_cmpR op_eq (pe_callB call_len_seq (by rfl) n_len PySem.boot_len (pa_cons (pv 0) pa_nil)) pe_int (nomark _)) (pw_or1 (pt_not (pt_val (pe_callB (cr_all rfl) (by rfl) n_all (by decide +kernel) (pa_cons (pe_lc (own := [("name", 3)]) (g := gName 3) rfl sc_is_lot.nd (pi_seq (pv 0)) (blkOk_by (N := ["value", "one", "other", "name"]) (sc := defScope s_is_lot) (by decide +kernel)) (fun _ _ _ _ _ => pg_name (i := 3) sc_is_lot.nd rfl (Or.inl rfl)) (fun _ _ _ _ _ => pts_nil) (fun _ _ _ _ _ => pe_use C_is_name (hr.mono (by decide)) rfl (pa_cons (pv 3) pa_nil))) pa_nil)))))))) (pss_one (ps_ret pe_bl)) pss_nil)
    (pss_one (ps_ret (pe_callB (cr_all rfl) (by rfl) n_all (by decide +kernel) (pa_cons (pe_lc (own := [("one", 1), ("other", 2)]) (g := gTup K 2 (gCons (gName 1) (gCons (gName 2) gNil))) rfl sc_is_lot.nd (pi_zipA (by rfl) n_zip (pa_cons (pv 0) (pa_cons (pe_slice (r := rSlA K) sl_tupA (pv 0) (po_some pe_int) po_none) pa_nil))) (blkOk_by (N := ["value", "one", "other", "name"]) (sc := defScope s_is_lot) (by decide +kernel)) (fun _ _ _ _ _ => pg_tup rfl (pgs_cons (pg_name (i := 1) sc_is_lot.nd rfl (Or.inl rfl)) (pgs_cons (pg_name (i := 2) sc_is_lot.nd rfl (Or.inl rfl)) pgs_nil))) (fun _ _ _ _ _ => pts_nil) (fun _ _ _ _ _ => pe_cmpR op_lt_str (pv 1) (pv 2) (nomark _))) pa_nil))))), ?_⟩
    have ty := ty_dp hv
    have kt := kit_tup hv
    cases hv with
    | @tup a xs ds ht ha =>
      have al := dpa_all ha
      have sm : ds.length ≤ 1000 ∧ ∀ d ∈ ds, ShortD d := sm
      have hl := al.len
      have q : ∀ H', Same H H' → Q (.bl (!ds.isEmpty && (ds.all nmD && ascD ds))) H' := q
      refine ⟨fun σ H' => σ = [some (.ref a), none, none, none] ∧ Same H H' ∧ ds ≠ [] ∧ ds.all nmD = true, ?_, ?_⟩
      · refine ⟨_, rfl, _, .ty "tuple", _, _, _, rfl, .ty "tuple", ty, kt, true, rfl, iteF ?_⟩
        refine ⟨_, rfl, a, _, rfl, .inr ht, rfl, _, rfl, ?_⟩
        by_cases c : ds = []
        · subst c
          have ex : xs = [] := List.eq_nil_of_length_eq_zero (by rw [hl]; rfl)
          subst ex
          exact iteT (q _ (Same.refl _))
        · have nl : xs.length ≠ 0 := fun e => c (List.eq_nil_of_length_eq_zero (by rw [← hl]; exact e))
          rw [decide_eq_false (fun e => nl (by injection e with e; omega))]
          refine iteF ⟨_, rfl, a, _, rfl, .inr ht, fun J S W s0 D hD => ?_⟩
          refine lc_mf (ds := ds) W (fun _ => true) (fun _ y d => y = .bl (nmD d)) s0 hD hl (fun i x d H' ex ed s m => ?_) (fun H' ys s e al2 => ?_)
          · refine ⟨rfl, _, rfl, x, d, rfl, dp_same s (at2 al ex ed), sm.2 d (at_mem ed), ?_⟩
            exact mf_yes m hD (fun _ _ _ _ _ h => h) ed (by omega) (Same.refl _) rfl rfl
          · rw [Rd.filter_all] at al2
            have ey := bl_map al2
            refine ⟨D, _, rfl, SqL.of (by rw [← ey]; exact e), _, rfl, ?_⟩
            rw [all_map]
            cases c2 : ds.all nmD with
            | true => exact iteF ⟨rfl, s, c, rfl⟩
            | false =>
              have q := q H' s
              rw [c2, Bool.false_and, Bool.and_false] at q
              exact iteT q
      rintro σ H1 ⟨rfl, s1, ne, nm⟩
      cases al with
      | nil => exact absurd rfl ne
      | @cons x0 d0 xr dr r0 rr =>
      have h1 := tupFix (Fix.of s1) ht
      refine ⟨_, rfl, ?_⟩
      refine rd_slc rfl h1 fun p H2 hp s2 e2 => ?_
      have h2 := tupFix (Fix.of s2) h1
      refine ⟨a, p, _, _, rfl, .inr ⟨h2, SqT.of e2, fun D hD => ?_⟩⟩
      have aw : All2 (Dp K H) (x0 :: xr) (d0 :: dr) := .cons r0 rr
      refine lc_mp wp_tup (ds := (d0 :: dr).zip dr) (fun _ => true) (fun _ y p => y = .bl (ltD p)) ⟨h2, SqT.of e2⟩ hD (by rw [List.length_zip, List.length_zip, aw.len, rr.len]) (fun _ _ _ _ _ h => h) (fun i T pr d H3 ep ed s3 eT m => ?_) (fun H3 ys s3 e al2 => ?_)
      · obtain ⟨p1, p2⟩ := pr
        obtain ⟨d1, d2⟩ := d
        obtain ⟨ea, eb⟩ := List.getElem?_zip_eq_some.mp ep
        obtain ⟨ga, gb⟩ := List.getElem?_zip_eq_some.mp ed
        have w1 := at2 aw ea ga
        have w2 := at2 rr eb gb
        obtain ⟨x, rfl, _⟩ := nm_str (List.all_eq_true.mp nm d1 (at_mem ga))
        obtain ⟨y, rfl, _⟩ := nm_str (List.all_eq_true.mp nm d2 (List.mem_cons_of_mem _ (at_mem gb)))
        cases w1
        cases w2
        refine ⟨T, _, rfl, SqT.of eT, rfl, _, _, rfl, _, _, rfl, rfl, rfl, _, rfl, _, rfl, _, _, rfl, rfl, ?_⟩
        exact mf_yes m hD (fun _ _ _ _ _ h => h) ed (by rw [List.length_zip]; have := sm.1; rw [List.length_cons] at this; omega) (Same.refl _) rfl rfl
      · rw [Rd.filter_all] at al2
        have ey := bl_map al2
        refine ⟨D, _, rfl, SqL.of (by rw [← ey]; exact e), ?_⟩
        rw [all_map, asc_zip _ _ nm]
        have q := q H3 ((s1.trans s2).trans s3)
        rw [nm] at q
        exact q
    | _ =>
      exact ⟨fun _ _ => False, ⟨_, rfl, _, .ty "tuple", _, _, _, rfl, .ty "tuple", ty, kt, _, rfl, iteT (q _ (Same.refl _))⟩, fun _ _ h => h.elim⟩
/-! ### is_tale -/
abbrev s_is_tale : Stmt := top 18
theorem sc_is_tale : FnScope ["value", "lot"] ["value"] (defScope s_is_tale) := ⟨rfl, rfl, rfl, by decide +kernel, rfl, by decide +kernel, by decide +kernel⟩
def Sm2 : PyData → Prop
  | .tuple ds => ds.length ≤ 1000 ∧ ∀ d ∈ ds, Sm1 d
  | _ => True
def spIsTale (K : PySem.W.Frag) : Sp := fun vs H Q _ => ∃ (v : V) (d : PyData), vs = [v] ∧ Dp K H v d ∧ Sm2 d ∧ ∀ H', Same H H' → Q (.bl (taleD d)) H'
theorem ok_is_tale {f : Addr} {fd : FuncData} (F : Fun K "is_tale" "is_tale" s_is_tale f fd) (C_is_lot : Cl P w K mg base "is_lot" ["value"] [] 2 (spIsLot K)) (n_all : mg "all" = none) (n_isinstance : mg "isinstance" = none) (n_tuple : mg "tuple" = none) : FnOk P w K mg base CX0 3 f fd ["value"] (spIsTale K) := by
  refine F.ok sc_is_tale (fun vs H Q E h => ?_) (fun cdv A outer s H vs Q E hr h => ?_)
  · obtain ⟨_, _, rfl, _⟩ := h
    rfl
  · obtain ⟨v, d, rfl, hv, sm, q⟩ := h
    refine ⟨_, (pss_one (ps_ret (pe_and (pe_callB call_isi (by rfl) n_isinstance (by decide +kernel) (pa_cons (pv 0) (pa_cons (pe_bltn (v := .ty "tuple") (by rfl) n_tuple (by decide +kernel) rfl) pa_nil))) (pe_one (pe_callB (cr_all rfl) (by rfl) n_all (by decide +kernel) (pa_cons (pe_lc (own := [("lot", 1)]) (g := gName 1) rfl sc_is_tale.nd (pi_seq (pv 0)) (blkOk_by (N := ["value", "lot"]) (sc := defScope s_is_tale) (by decide +kernel)) (fun _ _ _ _ _ => pg_name (i := 1) sc_is_tale.nd rfl (Or.inl rfl)) (fun _ _ _ _ _ => pts_nil) (fun _ _ _ _ _ => pe_use C_is_lot (hr.mono (by decide)) rfl (pa_cons (pv 1) pa_nil))) pa_nil)))))), ?_⟩
    have ty := ty_dp hv
    have kt := kit_tup hv
    cases hv with
    | @tup a xs ds ht ha =>
      have al := dpa_all ha
      have sm : ds.length ≤ 1000 ∧ ∀ d ∈ ds, Sm1 d := sm
      have hl := al.len
      have q : ∀ H', Same H H' → Q (.bl (ds.all lotD)) H' := q
      refine ⟨_, rfl, _, .ty "tuple", _, _, _, rfl, .ty "tuple", ty, kt, true, rfl, iteT ?_⟩
      refine ⟨_, rfl, a, _, rfl, .inr ht, fun J S W s0 D hD => ?_⟩
      refine lc_mf (ds := ds) W (fun _ => true) (fun _ y d => y = .bl (lotD d)) s0 hD hl (fun i x d H' ex ed s m => ?_) (fun H' ys s e al2 => ?_)
      · refine ⟨rfl, _, rfl, x, d, rfl, dp_same s (at2 al ex ed), sm.2 d (at_mem ed), fun H2 s2 => ?_⟩
        exact mf_yes m hD (fun _ _ _ _ _ h => h) ed (by omega) s2 rfl rfl
      · rw [Rd.filter_all] at al2
        have ey := bl_map al2
        refine ⟨D, _, rfl, SqL.of (by rw [← ey]; exact e), ?_⟩
        rw [all_map]
        exact q H' s
    | _ =>
      exact ⟨_, rfl, _, .ty "tuple", _, _, _, rfl, .ty "tuple", ty, kt, _, rfl, iteF (q _ (Same.refl _))⟩
end
end K6

namespace K6
open PySem PySem.Spec PyProof.Rows L2 Hb St Sq Ow En Zp RZ Rd
/-! ### tales as rows of texts -/
def TupS (K : PySem.W.Frag) (H : Hp) (v : V) (l : List Str) : Prop := ∃ b, v = .ref b ∧ SqT K H b (l.map V.str)
def LT (K : PySem.W.Frag) (H : Hp) (a : Addr) (ls : List (List Str)) : Prop := ∃ its, H a = some (.tup its) ∧ All2 (TupS K H) its ls
theorem TupS.fix {K : PySem.W.Frag} {H H' : Hp} {v : V} {l : List Str} (h : TupS K H v l) (f : Fix H H') : TupS K H' v l := let ⟨b, e, t⟩ := h; ⟨b, e, tupFix f t⟩
theorem not_mut_tup (xs : List V) : ¬ Mut (.tup xs) := by
  rintro (⟨_, e⟩ | ⟨_, e⟩) <;> cases e
theorem LT.fix {K : PySem.W.Frag} {H H' : Hp} {a : Addr} {ls : List (List Str)} (h : LT K H a ls) (f : Fix H H') : LT K H' a ls :=
  let ⟨its, e, al⟩ := h; ⟨its, f _ _ e (not_mut_tup _), al.imp fun _ _ t => t.fix f⟩
def natV (i : Nat) : V := .int (i : Nat)
end K6

/-! errors of classes of the program's own, over Exception through other own classes, whose __init__ keeps one thing: self.at = at -/
namespace Xb
open PySem PySem.W PySem.Calls PyProof.Rows PySem.HandSPX
abbrev exB : List Value := [.type "Exception", .type "BaseException", .type "object"]
def iA (p1 p2 : Pos) : Arguments := { posonlyargs := [], args := [{ arg := "self", annotation := none, pos := p1 }, { arg := "at", annotation := none, pos := p2 }], vararg := none, kwonlyargs := [], kw_defaults := [], kwarg := none, defaults := [] }
def iB (q1 q2 q3 q4 : Pos) : List Stmt := [.Assign [.Attribute (.Name "self" q1) "at" q2] (.Name "at" q3) q4]
def iS : Scope := { kind := .function, names := [(PySem.Str.ofString "self", .local), (PySem.Str.ofString "at", .local)], isGenerator := false, isCoroutine := false, more := [] }
/-- what the written part says of the class cn, at C, and of its __init__, at fI -/
structure ErrC (K : Frag) (mg : Str → Option Value) (cn : Str) (C fI : Addr) : Prop where
  gC : mg cn = some (.ref C)
  cls : ∃ nm q N bs bm sn sub ab col dd k0 k1 k2 k3 k5, K.lookup C = some (excClassObj nm q C N bs bm true sn sub ab col dd k0 k1 k2 k3 k5 "Exception.__new__") ∧ excTail exB bm = true
  sa : findIn K (.ref C) "__setattr__" = some (some (.builtin "object.__setattr__"))
  ga : findIn K (.ref C) "__getattribute__" = some (some (.builtin "BaseException.__getattribute__"))
  gg : findIn K (.ref C) "__getattr__" = some none
  noN : findIn K (.ref C) "at" = some none
  iC : findIn K (.ref C) "__init__" = some (some (.ref fI))
  tC : typeIn K (.ref fI) = some (.type "function")
  kC : keepIn K (.ref C) = true
  exC : subIn K (.ref C) (.type "BaseException") = some true
  tyC : typeIn K (.ref C) = some (.type "type")
  hdC : hasDictIn K C = true
  te : exmOne K (.ref C) (.ref C) = some true
  fn : ∃ (oc : Value) (od : Option Addr) (qn : Str) (doc pm : Value) (an : Option Addr) (cdv ct : Value) (osl : Array (Option Value)) (p1 p2 q1 q2 q3 q4 : Pos),
    K.lookup fI = some ⟨oc, od, .func (fnOf "__init__" qn (iA p1 p2) (iB q1 q2 q3 q4) iS .none .none doc pm an cdv ct), osl⟩ ∧ codeIn K cdv qn = true
theorem one_size (v : Value) : [v].length ≤ sizeLine := by
  rw [sizeLine_eq]
  exact (by decide : 1 ≤ 16777216)
theorem at_local {M : Model} {s : Shared} {name : Str} {scope : Scope} {L a : Addr} {cd : Value} {m : Str → Option Value} {x : Str} {pos : Pos} {v : Value} {Q : Value → Shared → Prop} {A : Around} {E : Value → Shared → Prop} (hn : s.heap.Ns L m) (hv : m x = some v) (h : Q v s)
    (hk : scope.kind = .function := by rfl) (hl : (envOfC name scope L a cd).kindOf x = some .local := by rfl) (hd : (x == ("__debug__" : Str)) = false := by decide) :
    wpAny M A (eval (.Name x pos) (envOfC name scope L a cd)) Q E s := wpAny_Name (wpAny_loadName_local hk hl hn hv h) hd
/-- what __init__ leaves of a fresh exception at x -/
structure Ended (h h' : Heap) (x C dx t1 : Addr) (v : Value) : Prop where
  keep : ∀ b o, b ≠ x → h.get? b = some o → h'.get? b = some o
  obj : h'.get? x = some { cls := .ref C, dict := some dx, data := .fields #[.ref t1, .none, .none, .none, .bool false, .none] }
  dbig : h.objs.size ≤ dx
  dne : dx ≠ x
  ns : h'.Ns1 dx (fun y => if y = "at" then some v else none)
structure Made (h h' : Heap) (e C d : Addr) (v : Value) : Prop where
  keep : ∀ b o, h.get? b = some o → h'.get? b = some o
  new : h.objs.size ≤ e
  obj : ∃ oe vs, h'.get? e = some oe ∧ oe.cls = .ref C ∧ oe.dict = some d ∧ oe.data = .fields vs ∧ vs[1]? = some .none
  dbig : h.objs.size ≤ d
  dne : d ≠ e
  ns : h'.Ns1 d (fun y => if y = "at" then some v else none)
section
open Builtin Builtin.ObjectAttr
variable {prog : Program} {w : World} {A : Around} {E : Value → Shared → Prop} {R : Result → Shared → Prop} {K : Frag} {mg : Str → Option Value} {cn : Str} {C fI : Addr}
/-- the first store to such an exception: it gets its dict -/
theorem first_store {hp : Heap} {g : Array GenState} {d : Drawn} {t : Nat} {os : OsState} {name : Str} {tk : Tok} {v : Value} {x : Addr} {fv : Array Value} {cd : ClassData}
    (X : K.In hp) (hx : hp.get? x = some { cls := .ref C, data := .fields fv }) (hcd : clsIn K C = some cd) (ho : excOver K C exB = true) (hh : cd.hasDict = true) (ha : findIn K (.ref C) name = some none)
    (hq : ∀ h' tk' dx, (∀ b o, b ≠ x → hp.get? b = some o → h'.get? b = some o) → hp.objs.size ≤ dx → dx ≠ x → h'.get? x = some { cls := .ref C, dict := some dx, data := .fields fv } →
      h'.Ns1 dx (fun y => if y = name then some v else none) → R (.ok (.ret .none)) ⟨h', g, d, tk', os⟩) :
    codeAny (model prog w) A (.call (.builtin "object.__setattr__") ⟨[.ref x, .str name tk, v], []⟩) R ⟨hp, g, d, t, os⟩ := by
  have I : InstAt hp x { cls := .ref C, data := .fields fv } C none := ⟨hx, rfl, rfl, trivial⟩
  have nx : x ≠ hp.objs.size := Nat.ne_of_lt (Heap.lt_size hx)
  refine osa_openX (r := none) F.store_Exception X I ho (by unfold takerIn; rw [ha]; rfl) fun b => ?_
  show wpAny _ _ (storeInOwnDict (.ref x) (.ref C) (.str name tk) name v b) _ _ _
  have hC : Looks (model prog w) hp (classData C) cd := looks_clsIn X hcd
  obtain ⟨_, _, _, _, _, hd, _, _, _, _, _⟩ := cd
  dsimp only at hh
  subst hh
  unfold storeInOwnDict ownDictForStores
  repeat (first | with_reducible refine wpAny_loadPart_at hx ?_ | with_reducible refine hC.at ?_ | with_reducible refine HandSPX.store_in_new ?_ ?_ | wp_step)
  · exact ⟨_, #[], _, (Heap.get?_update_ne _ _ _ _ nx.symm).trans (Heap.get?_push_at rfl rfl), rfl, fun e he => absurd he (by simp), fun _ => rfl⟩
  · intro h' tk' hn' hs
    have old : (hp.push { cls := .type "dict", data := .dict #[] }).get? x = some { cls := .ref C, data := .fields fv } := Heap.get?_push_of_some _ hx
    refine hq h' tk' hp.objs.size (fun b o hb ho => ?_) (Nat.le_refl _) nx.symm ?_ hn'
    · exact (hs.2 b (Nat.ne_of_lt (Heap.lt_size ho))).trans ((Heap.get?_update_ne _ _ _ _ hb).trans (Heap.get?_push_of_some _ ho))
    · exact (hs.2 x nx).trans (Heap.get?_update_self _ old rfl)
theorem err_init (T : ErrC K mg cn C fI) {s : Shared} {x t0 : Addr} {v : Value} (X : K.In s.heap) (hlim : s.heap.NoLimit) (hx : s.heap.get? x = some (excO C t0)) (hroom : A.depth < recursionLimit)
    (hq : ∀ h' tk dx, Ended s.heap h' x C dx t0 v → R (.ok (.ret .none)) { s with heap := h', toks := tk }) :
    codeAny (model prog w) A (.call (.ref fI) ⟨[.ref x, v], []⟩) R s := by
  obtain ⟨oc, od, qn, doc, pm, an, cdv, ct, osl, p1, p2, q1, q2, q3, q4, ho, hcd⟩ := T.fn
  obtain ⟨nm, q, N, bs, bm, sn, sub, ab, col, dd, k0, k1, k2, k3, k5, hC, hbm⟩ := T.cls
  have hcl : clsIn K C = some { name := nm, bases := bs, mro := .ref C :: bm, ns := N, qualname := q, hasDict := true, slotNames := sn, subclasses := sub, abstract := ab, collection := col, hasDel := false } := by unfold clsIn; rw [hC] <;> rfl
  have over : excOver K C exB = true := by
    unfold excOver
    rw [hcl]
    show ((C == C) && excTail exB bm) = true
    rw [hbm, beq_self_eq_true]
    rfl
  refine Att.call_fn (binds := [("self", .ref x), ("at", v)]) X hlim ho hcd hroom (BindsTo.of_eq (by first | rfl | with_unfolding_all rfl)) (by first | rfl | decide | with_unfolding_all rfl) (fun s₁ IC => ?_) rfl rfl rfl
  obtain ⟨h₁, tk₁, rfl⟩ := IC.toInCall.same
  have k : ∀ b o, s.heap.get? b = some o → h₁.get? b = some o := IC.toInCall.keep
  have hn := IC.toInCall.ns
  have X₁ : K.In h₁ := X.keeps k
  have hx₁ := k _ _ hx
  show wpAny _ _ (execs _ _) _ _ _
  refine wpAny_execs_cons (plainObj_wpAny_Assign_Attribute ?_)
  refine at_local (v := v) hn (by first | rfl | with_unfolding_all rfl | kernel_rfl) (at_local (v := .ref x) hn (by first | rfl | with_unfolding_all rfl | kernel_rfl) ?_)
  refine set_plain X₁ (ox := excO C t0) (od := none) ⟨hx₁, rfl, rfl, trivial⟩ T.sa ?_
  refine first_store X₁ hx₁ hcl over rfl T.noN (fun h₃ tk₃ dx k₃ dn dne hx₃ hn₃ => ?_)
  show wpAny _ _ (execs _ _) _ _ _
  have z : s.heap.objs.size < h₁.objs.size := hn.lt
  exact wpAny_execs_nil (hq h₃ tk₃ dx ⟨fun b o hb e => k₃ b o hb (k b o e), hx₃, Nat.le_of_lt (Nat.lt_of_lt_of_le z dn), dne, hn₃⟩)
theorem err_made (T : ErrC K mg cn C fI) {s : Shared} {v : Value} (X : K.In s.heap) (hlim : s.heap.NoLimit) (hroom : A.depth + 1 < recursionLimit)
    (hq : ∀ h' tk e d, Made s.heap h' e C d v → R (.ok (.ret (.ref e))) { s with heap := h', toks := tk }) :
    codeAny (model prog w) A (.call (.ref C) ⟨[v], []⟩) R s := by
  obtain ⟨nm, q, N, bs, bm, sn, sub, ab, col, dd, k0, k1, k2, k3, k5, hC, hbm⟩ := T.cls
  obtain ⟨hp, g, dr, tk, os⟩ := s
  have k : ∀ b o, hp.get? b = some o → ((hp.push (kdv_tup [v])).push (excO C hp.objs.size)).get? b = some o := fun b o e => Heap.get?_push_of_some _ (Heap.get?_push_of_some _ e)
  have hget : ((hp.push (kdv_tup [v])).push (excO C hp.objs.size)).get? (hp.objs.size + 1) = some (excO C hp.objs.size) := by heap_get
  refine call_own F.excBase_Exception (fun X => excTail_contains X bm hbm) (X _ _ hC) (looks_findIn X T.iC) (fun self => bind_fn X self T.tC) (one_size v) ?_
  refine err_init (s := ⟨(hp.push (kdv_tup [v])).push (excO C hp.objs.size), g, dr, tk, os⟩) T (X.keeps k) (hlim.keeps k) hget ?_ fun h' tk' dx ⟨k', hx, dn, dne, hns⟩ => ?_
  · show A.depth + 1 < recursionLimit
    exact hroom
  · have old : ∀ b o, hp.get? b = some o → h'.get? b = some o := fun b o e => k' b o (Nat.ne_of_lt (Nat.lt_succ_of_lt (Heap.lt_size e))) (k b o e)
    have z : hp.objs.size + 1 + 1 ≤ dx := by
      first
        | (simpa only [Heap.size_push] using dn)
        | exact dn
        | (have q := dn; rw [Heap.size_push, Heap.size_push] at q; exact q)
    exact ⟨rfl, hq h' tk' (hp.objs.size + 1) dx ⟨old, Nat.le_succ _, ⟨_, _, hx, rfl, rfl, rfl, rfl⟩, Nat.le_trans (Nat.le_trans (Nat.le_succ _) (Nat.le_succ _)) z, dne, hns⟩⟩
end
end Xb
namespace Xb
open PySem PySem.Spec PyProof.Rows L2
theorem relO_at {v : V} {v' : Value} (r : RelV v v') (f : Str) : RelO (List.lookup f [(("at" : Str), v)]) (if f = "at" then some v' else none) := by
  by_cases hw : f = "at"
  · subst hw
    rw [if_pos rfl]
    have q : List.lookup ("at" : Str) [(("at" : Str), v)] = some v := by simp [List.lookup]
    rw [q]
    exact r
  · rw [if_neg hw]
    have qw : (f == ("at" : Str)) = false := by simpa using hw
    have q2 : List.lookup f [(("at" : Str), v)] = none := by simp [List.lookup, qw]
    rw [q2]
    trivial
section
variable {X : Cx} {cn : Str} {C fI : Addr}
/-- cn(e) -/
def tMk (C : Addr) (ta : TA) : L2.St → Hp → XK → Prop := fun σ H Q => ta σ H fun vs H1 => ∃ v, vs = [v] ∧ ∀ d, H1 d = none → Q (.ref C) (some d) (upd H1 d (.xd [(("at" : Str), v)]))
theorem pmk_at {a : Expr} {ta : TA} {p pos : Pos} {k : Nat} (T : ErrC X.K X.mg cn C fI) (hr : Room k X.A) (ha : PA X [a] ta) (hg : Gl X cn) (hdb : (cn == ("__debug__" : Str)) = false := by decide)
    (he : starEach (a :: []) X.env = (false, eval a X.env) :: starEach [] X.env := by rfl) (hpl : (backTo pos (starEach [] X.env)).any (·.1) = false := by rfl) :
    PMk X (.Call (.Name cn p) [a] [] pos) (tMk C ta) := by
  intro pins s σ H Q I h
  refine wpAny_Call_Name_kw (ld_glob I hg T.gC ?_ hdb)
  refine PySem.W.callWith_K (h₀ := X.base) I.ok.mod.kin T.kC (thn (ha.run pos pins s σ H _ I h) fun us s1 hh => ?_) he hpl
  obtain ⟨vs, H1, I1, r1, v, ev, q1⟩ := hh
  subst ev
  refine ⟨I1.kIn, ?_⟩
  cases r1 with
  | cons rv rn =>
    rename_i v' us'
    cases rn
    show wpAny _ _ (call (.ref C) [v']) _ _ _
    have hlim := I1.nolimit
    obtain ⟨hp, g, dr, tk, os⟩ := s1
    refine wpAny_call (err_made T I1.kIn hlim (by have := hr.dp; omega) fun h' tk' e d M => ?_)
    show MkP X pins σ Q (.ref e) ⟨h', g, dr, tk', os⟩
    obtain ⟨oe, fv, hoe, hc, hd, hdat, h1⟩ := M.obj
    have hns := M.ns
    obtain ⟨G', g1, g2⟩ := restrict h' fun b => decide (b ≠ e)
    have gk : ∀ b, b ≠ e → G'.get? b = h'.get? b := fun b hb => g1 b (decide_eq_true hb)
    have ge : G'.get? e = none := g2 e (by simp)
    have old : ∀ b o, hp.get? b = some o → G'.get? b = some o := fun b o q => (gk b (Nat.ne_of_lt (Nat.lt_of_lt_of_le (Heap.lt_size q) M.new))).trans (M.keep b o q)
    have ob : ObjOk X.prog X.w (upd H1 d (.xd [(("at" : Str), v)])) G' d (.xd [(("at" : Str), v)]) :=
      ⟨_, hns.at (fun o q => (gk d M.dne).trans q), fun f => relO_at rv f⟩
    have J : Inv X pins σ (upd H1 d (.xd [(("at" : Str), v)])) ⟨G', g, dr, tk', os⟩ := I1.laid (t' := tk') old M.dbig ob
    refine ⟨e, oe, fv, ⟨G', g, dr, tk', os⟩, _, .ref C, some d, rfl, J, fun b o q => ?_, ge, hoe, ⟨hc, hd⟩, hdat, h1, ?_, rfl, I1.bare, raises_own T.exC T.tyC, q1 d (I1.hok.fresh M.dbig)⟩
    · by_cases hb : b = e
      · have q' : G'.get? b = some o := q
        rw [hb, ge] at q'; cases q'
      · exact (gk b hb).symm.trans q
    · rw [upd_ne (Ne.symm M.dne)]
      exact I1.hok.fresh M.new
/-- raise cn(e) -/
def tRaise (C : Addr) (W : WX) (ta : TA) : TS := fun _ σ H => tMk C ta σ H fun cls d H' => W cls d σ H'
theorem ps_raiseAt {a : Expr} {ta : TA} {W : WX} {p pos pos2 : Pos} {k : Nat} (hc : X.calm = true) (T : ErrC X.K X.mg cn C fI) (hr : Room k X.A) (tk : Takes X W) (ha : PA X [a] ta) (hg : Gl X cn) (hdb : (cn == ("__debug__" : Str)) = false := by decide)
    (he : starEach (a :: []) X.env = (false, eval a X.env) :: starEach [] X.env := by rfl) (hpl : (backTo pos (starEach [] X.env)).any (·.1) = false := by rfl) :
    PS X (.Raise (some (.Call (.Name cn p) [a] [] pos)) none pos2) (tRaise C W ta) := ps_raise hc tk (pmk_at T hr ha hg hdb he hpl)
theorem ErrC.xf (T : ErrC X.K X.mg cn C fI) : XfC X.K C := ⟨T.ga, T.gg, T.exC, T.hdC⟩
end
end Xb

namespace K6
open PySem PySem.Spec PyProof.Rows L2 Hb St Sq Ow En Zp RZ Rd Xb
/-! ### a plain call of a def with a star -/
theorem pe_goR {X : Cx} {CX : CXT} {k : Nat} {f : Addr} {sp : Sp} {x : Str} {p pos : Pos} {e : Expr} {es : List Expr} {t : TA} {E : L2.St → XK} (F : FnR X.prog X.w X.K X.mg X.base CX k f sp) (hm : X.mg x = some (.ref f)) (hk : PySem.W.keepIn X.K (.ref f) = true) (hr : Room k X.A) (hx : ∀ σ, PassesAt CX X σ (E σ)) (hg : Gl X x) (ha : PA X (e :: es) t) (hdb : (x == ("__debug__" : Str)) = false := by decide)
    (he : starEach (e :: es) X.env = (false, eval e X.env) :: starEach es X.env := by rfl) (hpl : (backTo pos (starEach es X.env)).any (·.1) = false := by rfl) : PE X (.Call (.Name x p) (e :: es) [] pos) (tCallS sp E t) := by
  refine ⟨fun pins s σ H Q I h => wpAny_Call_Name_kw (ld_glob I hg hm ?_ hdb)⟩
  refine PySem.W.callWith_K (h₀ := X.base) I.ok.mod.kin hk (thn (ha.run pos pins s σ H _ I h) fun us s1 ⟨vs, H1, I1, r, q⟩ => ⟨I1.kIn, ?_⟩) he hpl
  refine wpAny_call (codeAny_mono (F X.A X.stack s1 H1 us vs Q (E σ) hr I1.env0 r q) fun r s' z => ?_)
  rcases r with u | (_ | _ | _ | v)
  · exact hx σ pins H1 s1 u s' I1 z
  · exact False.elim z
  · exact False.elim z
  · exact False.elim z
  · exact I1.after z
/-! ### need_tales -/
def firstNo (ds : List PyData) : Option Nat := ds.findIdx? fun d => !taleD d
section
variable {P : Program} {w : World} {K : PySem.W.Frag} {mg : Str → Option Value} {base : Heap}
abbrev s_need_tales : Stmt := top 19
theorem sc_need_tales : FnScope ["values", "at", "value"] [] (defScope s_need_tales) := ⟨rfl, rfl, rfl, by decide +kernel, rfl, by decide +kernel, by decide +kernel⟩
def errH (at_ : Int) : HO := .xd [(("at" : Str), .int at_)]
def spNeed (K : PySem.W.Frag) (C : Addr) : Sp := fun vs H Q E => ∃ (p : Addr) (xs : List V) (ds : List PyData), vs = [.ref p] ∧ H p = some (.tup xs) ∧ All2 (Dp K H) xs ds ∧ ds.length ≤ 1000 ∧ (∀ d ∈ ds, Sm2 d) ∧ (firstNo ds = none → ∀ H', Same H H' → Q .non H') ∧
  ∀ k, firstNo ds = some k → ∀ dd H', Same H H' → H' dd = some (errH (k : Nat)) → E (.ref C) (some dd) H'
def spNeedR (K : PySem.W.Frag) (C : Addr) : Sp := fun vs H Q E => ∃ ws rest : List V, vs = ws ++ rest ∧ ws.length = 0 ∧ rest.length ≤ sizeLine ∧ ∀ p : Addr, H p = none → spNeed K C (ws ++ [V.ref p]) (upd H p (.tup rest)) Q E
theorem sc_nt : FnScope ["values", "at", "value"] (([] : List Str) ++ [("values" : Str)]) (defScope s_need_tales) := ⟨rfl, rfl, rfl, by decide +kernel, rfl, by decide +kernel, by decide +kernel⟩
theorem ok_need {f C fI : Addr} {fd : FuncData} (F : Fun K "need_tales" "need_tales" s_need_tales f fd) (T : ErrC K mg "InvalidHeard" C fI) (C_is_tale : Cl P w K mg base "is_tale" ["value"] [] 3 (spIsTale K)) (n_enumerate : mg "enumerate" = none) : FnR P w K mg base (L2.CX P w) 4 f (spNeedR K C) := by
  obtain ⟨oc, od, kV, doc, pm, an, cdv, ct, osl, rfl, lk, hcd⟩ := F.ex
  refine StX.fn_star (ps := []) (pv := "values") (sp := spNeed K C) lk hcd sc_nt StX.cxUp (fun us rest hu => ?_) (fun A outer s H vs Q E hr h => ?_)
  · cases us with
    | nil => cases rest <;> rfl
    | cons _ _ => cases hu
  · obtain ⟨p, xs, ds, rfl, hp, al, dl, sm, q, e⟩ := h
    refine ⟨_, (pss_one (ps_for (passes_of rfl) rfl (pi_enumT (by rfl) n_enumerate (pa_cons (pv 0) pa_nil)) (pg_tup rfl (pgs_cons (pg_name (i := 1) sc_nt.nd rfl (Or.inl rfl)) (pgs_cons (pg_name (i := 2) sc_nt.nd rfl (Or.inl rfl)) pgs_nil)))
      (pss_one (ps_if (pt_not (pt_val (pe_use C_is_tale (hr.mono (by decide)) rfl (pa_cons (pv 2) pa_nil)))) (pss_one (ps_raiseAt rfl T hr (takes_of rfl rfl rfl rfl) (pa_cons (pv 1) pa_nil) rfl)) pss_nil)))), ?_⟩
    refine ⟨_, rfl, p, rfl, ⟨xs, SqT.of hp⟩, ?_⟩
    refine for_en en_tup (fun i σ H' => (∃ o1 o2, σ = [some (.ref p), o1, o2]) ∧ Same H H' ∧ ∀ d ∈ ds.take i, taleD d = true) ⟨⟨none, none, rfl⟩, Same.refl _, fun d hd => by cases hd⟩ (fun i σ H' pv => SqT.of (pv.2.1 _ _ hp)) ?_ ?_
    · rintro i σ H1 x t ex ⟨⟨o1, o2, rfl⟩, s1, all⟩ ht
      have s2 := same_new ht (.tup [.int (i : Nat), x])
      refine ⟨t, _, rfl, SqT.of upd_same, rfl, _, _, rfl, _, _, rfl, rfl, ?_⟩
      generalize upd H1 t (.tup [.int (i : Nat), x]) = H2 at s2 ⊢
      obtain ⟨d, ed, hd⟩ := al.get ex
      refine ⟨_, rfl, x, d, rfl, dp_same (s1.trans s2) hd, sm d (at_mem ed), fun H3 s3 => ⟨_, rfl, ?_⟩⟩
      have s13 := (s1.trans s2).trans s3
      cases c : taleD d with
      | true =>
        refine iteF ⟨⟨_, _, rfl⟩, s13, fun d' hd' => ?_⟩
        rw [List.take_add_one, ed] at hd'
        rcases List.mem_append.mp hd' with z | z
        · exact all d' z
        · rw [List.mem_singleton.mp z]; exact c
      | false =>
        refine iteT ⟨_, rfl, _, rfl, fun dd hn => ?_⟩
        refine e i ?_ dd _ (s13.trans (same_new hn _)) upd_same
        unfold firstNo
        rw [List.findIdx?_eq_some_iff_getElem]
        have hi : i < ds.length := (List.getElem?_eq_some_iff.mp ed).1
        refine ⟨hi, ?_, fun j hj => ?_⟩
        · rw [(List.getElem?_eq_some_iff.mp ed).2, c]; rfl
        · have hj' : j < ds.length := by omega
          rw [all (ds[j]) (List.mem_iff_getElem?.mpr ⟨j, by rw [List.getElem?_take_of_lt hj]; exact List.getElem?_eq_getElem hj'⟩)]; decide
    · rintro σ H1 ⟨⟨o1, o2, rfl⟩, s1, all⟩
      refine q ?_ _ s1
      unfold firstNo
      rw [List.findIdx?_eq_none_iff]
      intro d hd
      rw [List.take_of_length_le (by rw [al.len]; exact Nat.le_refl _)] at all
      rw [all d hd]; rfl
end
end K6

/-! a name that holds a def which may raise; calls by keywords of such; the law itself, its code object known -/
namespace Lc
open PySem PySem.Spec PyProof.Rows L2 Hb LamX
/-- the def at f, one that may raise, keeps sp -/
structure DfX (P : Program) (w : World) (K : PySem.W.Frag) (mg : Str → Option Value) (base : Heap) (lv : Nat) (f : Addr) (sp : Sp) : Prop where
  ex : ∃ (ps : List Str) (fd : FuncData), FnOk P w K mg base (L2.CX P w) lv f fd ps sp ∧ PySem.W.keepIn K (.ref f) = true ∧ Binds K fd ps []
theorem DfX.of {P : Program} {w : World} {K : PySem.W.Frag} {mg : Str → Option Value} {base : Heap} {j lv : Nat} {f : Addr} {fd : FuncData} {ps : List Str} {sp sp' : Sp} (F : FnOk P w K mg base (L2.CX P w) j f fd ps sp') (kp : PySem.W.keepIn K (.ref f) = true) (b : Binds K fd ps []) (h : j ≤ lv) (le : ∀ vs H Q E, sp vs H Q E → sp' vs H Q E) : DfX P w K mg base lv f sp :=
  ⟨ps, fd, ⟨fun vs H Q E z => F.len vs H Q E (le _ _ _ _ z), fun A o s H args us vs Q E r e0 bi va z => F.run A o s H args us vs Q E (r.mono h) e0 bi va (le _ _ _ _ z)⟩, kp, b⟩
def tVarX (P : Program) (w : World) (K : PySem.W.Frag) (mg : Str → Option Value) (base : Heap) (lv i : Nat) (sp : Sp) (E : L2.St → XK) (ta : TA) : TE := fun σ H Q => ∃ f, σ[i]? = some (some (.ref f)) ∧ DfX P w K mg base lv f sp ∧ ta σ H fun vs H1 => sp vs H1 Q (E σ)
theorem pe_varX {X : Cx} {a : Str} {lv i : Nat} {sp : Sp} {E : L2.St → XK} {p pos : Pos} {e : Expr} {es : List Expr} {ta : TA} (nm : X.N[i]? = some a) (vis : Vis X.env.scope a) (hr : Room lv X.A) (hx : ∀ σ, PassesAt (L2.CX X.prog X.w) X σ (E σ)) (ha : PA X (e :: es) ta)
    (d1 : (a == ("__debug__" : Str)) = false := by decide) (d2 : (a == ("__classdict__" : Str)) = false := by decide)
    (se : starEach (e :: es) X.env = (false, eval e X.env) :: starEach es X.env := by rfl) (sp' : (backTo pos (starEach es X.env)).any (·.1) = false := by rfl) :
    PE X (.Call (.Name a p) (e :: es) [] pos) (tVarX X.prog X.w X.K X.mg X.base lv i sp E ta) := by
  refine ⟨fun pins s σ H Q I h => ?_⟩
  obtain ⟨f, hf, ⟨ps, fd, F, kp, b⟩, h⟩ := h
  refine wpAny_Call_Name_kw (thn ((pe_var (pos := p) (i := i) nm vis d1 d2).run pins s σ H (fun v H1 => v = .ref f ∧ H1 = H) I ⟨.ref f, hf, rfl, rfl⟩) fun u s1 ⟨v, H1, I1, r1, ev, eH⟩ => ?_)
  subst ev
  rw [eH] at I1
  obtain rfl : u = Value.ref f := r1
  refine PySem.W.callWith_K (h₀ := X.base) I1.ok.mod.kin kp (thn (ha.run pos pins s1 σ H _ I1 h) fun us s2 ⟨vs, H2, I2, r2, q⟩ => ⟨I2.kIn, ?_⟩) se sp'
  exact run_fnS F hr b (hx σ) I2 r2 q
/-- f(k = v, ..), a def that may raise -/
structure CkX (P : Program) (w : World) (K : PySem.W.Frag) (mg : Str → Option Value) (base : Heap) (x : Str) (ps : List Str) (ks : List Str) (gV : List V → List V → List V) (lv : Nat) (sp : Sp) : Prop where
  ex : ∃ (f : Addr) (fd : FuncData) (g : List Value → List Value → List Value), FnOk P w K mg base (L2.CX P w) lv f fd ps sp ∧ mg x = some (.ref f) ∧ PySem.W.keepIn K (.ref f) = true ∧ KBn K fd ps 0 ks g gV
theorem pe_useKX {X : Cx} {ps ks : List Str} {gV : List V → List V → List V} {lv : Nat} {sp : Sp} {x : Str} {p pos : Pos} {tk : TA} {kws : List Keyword} {E : XK} (C : CkX X.prog X.w X.K X.mg X.base x ps ks gV lv sp) (hr : Room lv X.A) (hx : Passes (L2.CX X.prog X.w) X E) (gl : Gl X x) (hkw : PK X kws tk)
    (hall : (backToKw pos (keywordEach kws X.env)).all (·.1.isSome) = true := by rfl) (hks : (backToKw pos (keywordEach kws X.env)).filterMap (·.1) = ks := by rfl)
    (db : (x == ("__debug__" : Str)) = false := by decide) (spl : ((backTo pos (starEach [] X.env)).any (·.1) || (backToKw pos (keywordEach kws X.env)).any (·.1.isNone)) = false := by rfl) :
    PE X (.Call (.Name x p) [] kws pos) (tCallN 0 ks.length sp gV E tNil tk) := by
  obtain ⟨f, fd, g, F, mgx, kp, b⟩ := C.ex
  refine ⟨fun pins s σ H Q I h => wpAny_Call_Name_kw (ld_glob I gl mgx ?_ db)⟩
  refine PySem.W.callWith_KW0 (h₀ := X.base) I.ok.mod.kin kp hall ?_ spl
  refine thn (hkw.run pos pins s σ H _ I h) fun ws s2 ⟨zs, H2, I2, rz, l1, l2, q2⟩ => ⟨I2.kIn, ?_⟩
  rw [hks]
  exact run_fnN (us := []) (vs := []) F hr b hx I2 .nil rz rfl l2 q2
/-- a def by its body, its code object at c -/
theorem okC {P : Program} {w : World} {K : PySem.W.Frag} {mg : Str → Option Value} {base : Heap} {x qual : Str} {st : Stmt} {f c : Addr} {oc : Value} {od an : Option Addr} {osl : Array (Option Value)} {kV doc pm ct : Value} {N ps : List Str} {k : Nat} {sp : Sp}
    (lk : K.lookup f = some ⟨oc, od, .func (PySem.W.fnOf x qual (defArgs st) (defBody st) (defScope st) .none kV doc pm an (.ref c) ct), osl⟩) (cd : PySem.W.codeIn K (.ref c) qual = true) (S : FnScope N ps (defScope st)) (len : ∀ vs H Q E, sp vs H Q E → vs.length = ps.length)
    (hbody : ∀ (A : Around) (outer : List Env) (s : Shared) (H : Hp) (vs : List V) (Q : VK) (E : XK), Room k (A.deeper (envOfC qual (defScope st) s.heap.objs.size f (.ref c))) → sp vs H Q E →
      ∃ t, PSs (cxOf CX0 P w K mg base N qual (defScope st) f (.ref c) A outer s H E).nox (defBody st) t ∧ t { nx := fun _ H' => Q .non H', rt := Q } (start N vs) H) :
    FnOk P w K mg base CX0 (k + 1) f (PySem.W.fnOf x qual (defArgs st) (defBody st) (defScope st) .none kV doc pm an (.ref c) ct) ps sp := by
  refine fn_of lk cd S len fun A outer s H vs Q E hr hsp => ?_
  obtain ⟨t, h, q⟩ := hbody A outer s H vs Q E hr hsp
  exact ⟨t, h.nox, q⟩
end Lc

/-! a lambda with parameters that captures nothing: made, kept in a tuple, called by a name -/
namespace Lp
open PySem PySem.Spec PyProof.Rows L2 Hb LamX Lc
/-- the lambda that stands at f, its code object at c -/
def LamO (q : Str) (prm : Arguments) (bod : Expr) (sc : Scope) (c f : Addr) : HO := .ext fun h => ∃ pm ct : Value, h.get? f = some (PySem.W.kla_obj "<lambda>" q prm bod sc [] pm c ct)
theorem clo_nil {cells : List (Str × Addr)} : ∀ {ns : List (Str × NameKind)} {acc : List (Str × Addr)}, (∀ y ∈ ns, y.2 ≠ .free) → cloFrom cells ns acc = acc
  | [], _, _ => rfl
  | (n, k) :: r, acc, h => by
    have hk : (k == NameKind.free) = false := by
      have := h (n, k) (.head _)
      cases k <;> first | rfl | exact absurd rfl this
    show (if (k == NameKind.free) = true then _ else cloFrom cells r acc) = acc
    rw [hk, if_neg (by decide)]
    exact clo_nil fun y m => h y (.tail _ m)
section
variable {X : Cx} {pins : List (Addr × Obj)} {σ : L2.St} {H : Hp} {s : Shared}
theorem laid_lam {q : Str} {prm : Arguments} {bod : Expr} {sc : Scope} {pm ct : Value} {c : Addr} {h' : Heap} {t t' : Nat} (I : Inv X pins σ H { s with heap := h', toks := t }) :
    Inv X pins σ (upd H h'.objs.size (LamO q prm bod sc c h'.objs.size)) { s with heap := h'.push (PySem.W.kla_obj "<lambda>" q prm bod sc [] pm c ct), toks := t' } := by
  have at_ : (h'.push (PySem.W.kla_obj "<lambda>" q prm bod sc [] pm c ct)).get? h'.objs.size = some (PySem.W.kla_obj "<lambda>" q prm bod sc [] pm c ct) := Heap.get?_push_size _ rfl
  exact I.laid (t' := t') (fun b u e => Heap.get?_push_of_some _ e) (Nat.le_refl _) (show ObjOk _ _ _ _ _ (LamO q prm bod sc c h'.objs.size) from ⟨⟨pm, ct, at_⟩, ⟨_, at_⟩, fun h1 h2 ⟨a, b, e⟩ st => ⟨a, b, st _ e⟩⟩)
theorem make_lam {T : List (Addr × Str)} {c P : Addr} {prm : Arguments} {bod : Expr} {sc : Scope} {pos : Pos} {E Q : Value → Shared → Prop} (I : Inv X pins σ H s) (tb : TabB X.base X.mg c P) (ec : X.env.code = .ref c)
    (inT : (P, X.env.qual ++ "<lambda>") ∈ T) (one : ∀ y ∈ T, y.1 = P → y.2 = X.env.qual ++ "<lambda>") (tt : Tabs T H) (nd : defaultsOf prm X.env = ([], [])) (nf : ∀ y ∈ sc.names, y.2 ≠ .free)
    (k : ∀ (f c1 : Addr) (H1 : Hp) (s1 : Shared), Inv X pins σ (upd H1 f (LamO (X.env.qual ++ "<lambda>") prm bod sc c1 f)) s1 → ExtN H H1 → Tabs T H1 → H1 f = none → H1 c1 = some (CodeO c1 (X.env.qual ++ "<lambda>")) → Q (.ref f) s1) :
    wpAny (model X.prog X.w) X.A (eval (.Lambda prm bod sc pos) X.env) Q E s := by
  obtain ⟨ps, tP, tok, tall⟩ := tt _ inT
  have clo : closureFor sc X.env = pure [] := by
    have z := closure_ok (scope := sc) (env := X.env) fun y m e => absurd e (nf y m)
    rwa [clo_nil nf] at z
  have bts : s.heap.BuiltinsAt X.mg P := tb.bm.keeps I.bk
  have tP0 : s.heap.get? P = some { cls := .none, data := .fields ps } := I.hok P _ tP
  refine PySem.W.kla_eval nd ?_
  rcases found : codeAmong pos ps.toList with _ | cv
  · refine PySem.W.kla_makeFunction (clos := []) (mg := X.mg) (c := c) (P := P) (ps := ps) clo I.ok.glob (I.mod.glob.keeps I.bk) ec (tb.code.keeps I.bk) tP0 tok found tb.gP bts fun c1 ct h1 tk ext new lt rec tab => ?_
    obtain ⟨c2, oc, fs, t, eq2, goc, dat, at1⟩ := rec
    cases eq2
    have nc : H c1 = none := I.hok.fresh new
    have J := inv_table (t' := tk) (more := #[rawInt pos.line, rawInt pos.col, .ref c1]) I tP ext tab new ⟨oc, fs, t, goc, dat, at1⟩
    have xt : ExtN H (upd (upd H P (.tbl (ps ++ #[rawInt pos.line, rawInt pos.col, .ref c1]))) c1 (CodeO c1 (X.env.qual ++ "<lambda>"))) := fun b o e nt => by
      have n1 : b ≠ P := fun z => by rw [z, tP] at e; exact nt ps (Option.some.inj e).symm
      rw [upd_ne (ne_of_none e nc), upd_ne n1]; exact e
    have tl : (ps ++ #[rawInt pos.line, rawInt pos.col, .ref c1]).toList = ps.toList ++ [rawInt pos.line, rawInt pos.col, .ref c1] := Array.toList_append
    have sz : s.heap.objs.size ≤ h1.objs.size := Nat.le_trans new (Nat.le_of_lt lt)
    refine k h1.objs.size c1 _ _ (laid_lam J) xt (fun y m => ?_) ?_ upd_same
    · rcases Decidable.em (y.1 = P) with e | e
      · rw [one y m e, e]
        refine ⟨_, by rw [upd_ne (ne_of_none tP nc), upd_same], by rw [tl]; exact PySem.TriplesOk_snoc _ _ _ _ tok, fun p1 cv e1 => ?_⟩
        rw [tl] at e1
        rcases among_app _ tok e1 with z | z
        · obtain ⟨c0, a1, a2⟩ := tall p1 cv z
          exact ⟨c0, a1, xt _ _ a2 codeO_ne⟩
        · exact ⟨c1, z, upd_same⟩
      · obtain ⟨qs, a1, a2, a3⟩ := tt y m
        refine ⟨qs, by rw [upd_ne (ne_of_none a1 nc), upd_ne e]; exact a1, a2, fun p1 cv e1 => ?_⟩
        obtain ⟨c0, b1, b2⟩ := a3 p1 cv e1
        exact ⟨c0, b1, xt _ _ b2 codeO_ne⟩
    · rw [upd_ne (Nat.ne_of_gt lt), upd_ne (Nat.ne_of_gt (Nat.lt_of_lt_of_le (Heap.lt_size tP0) sz))]
      exact I.hok.fresh sz
  · obtain ⟨c1, rfl, co⟩ := tall pos cv found
    refine PySem.W.kla_makeFunctionHit (clos := []) (mg := X.mg) (c := c) (P := P) (ps := ps) clo I.ok.glob (I.mod.glob.keeps I.bk) ec (tb.code.keeps I.bk) tP0 tok found bts fun ct h1 tk ext sz => ?_
    have J : Inv X pins σ H { s with heap := h1, toks := tk } := I.kept ext
    exact k h1.objs.size c1 H _ (laid_lam J) (ExtN.refl H) tt (I.hok.fresh sz) co
/-- lambda a, b, ..: e -/
def tLamP (T : List (Addr × Str)) (q : Str) (prm : Arguments) (bod : Expr) (sc : Scope) : TE := fun _ H Q => Tabs T H ∧ ∀ f c1 H1, ExtN H H1 → Tabs T H1 → H1 f = none → H1 c1 = some (CodeO c1 q) → Q (.ref f) (upd H1 f (LamO q prm bod sc c1 f))
theorem pe_lamP {T : List (Addr × Str)} {c P : Addr} {prm : Arguments} {bod : Expr} {sc : Scope} {pos : Pos} (tb : TabB X.base X.mg c P) (ec : X.env.code = .ref c) (inT : (P, X.env.qual ++ "<lambda>") ∈ T) (one : ∀ y ∈ T, y.1 = P → y.2 = X.env.qual ++ "<lambda>")
    (nd : defaultsOf prm X.env = ([], [])) (nf : ∀ y ∈ sc.names, y.2 ≠ .free) : PE X (.Lambda prm bod sc pos) (tLamP T (X.env.qual ++ "<lambda>") prm bod sc) :=
  ⟨fun pins s σ H Q I h => make_lam I tb ec inT one h.1 nd nf fun f c1 H1 s1 J xt t1 n1 e1 => ⟨.ref f, _, J, rfl, h.2 f c1 H1 xt t1 n1 e1⟩⟩
end
/-- what such a lambda keeps, wherever it stands -/
structure LmOk (P : Program) (w : World) (K : PySem.W.Frag) (mg : Str → Option Value) (base : Heap) (CX : CXT) (lv : Nat) (q : Str) (prm : Arguments) (bod : Expr) (sc : Scope) (N ps : List Str) (sp : Sp) : Prop where
  S : FnScope N ps sc
  len : ∀ vs H Q E, sp vs H Q E → vs.length = ps.length
  bind : ∀ (us : List Value) (pm cv ct : Value), us.length = ps.length → bindArgs (PySem.W.kla_fn "<lambda>" q prm bod sc [] pm cv ct) ⟨us, []⟩ = pure (ps.zip us)
  run : ∀ (f c : Addr) (A : Around) (outer : List Env) (s : Shared) (H : Hp) (vs : List V) (Q : VK) (E : XK), Room lv (A.deeper (envOfC q sc s.heap.objs.size f (.ref c))) → sp vs H Q E → ∃ te, PE (cxOf CX P w K mg base N q sc f (.ref c) A outer s H E) bod te ∧ te (L2.start N vs) H Q
section
variable {P : Program} {w : World} {K : PySem.W.Frag} {mg : Str → Option Value} {base : Heap} {CX : CXT} {lv : Nat} {q : Str} {prm : Arguments} {bod : Expr} {sc : Scope} {N ps : List Str} {sp : Sp}
theorem run_lam (L : LmOk P w K mg base CX lv q prm bod sc N ps sp) {f c : Addr} {A : Around} {outer : List Env} {s : Shared} {H : Hp} {us : List Value} {vs : List V} {Q : VK} {E : XK} (hr : Room (lv + 1) A) (e0 : Env0 P w K mg base A outer s H) (ef : H f = some (LamO q prm bod sc c f)) (eco : H c = some (CodeO c q)) (r : Vals vs us) (z : sp vs H Q E) :
    codeAny (model P w) A (.call (.ref f) ⟨us, []⟩) (CR CX outer P w H s Q E) s := by
  obtain ⟨⟨pm, ct, gf⟩, _, _⟩ := e0.hok f _ ef
  obtain ⟨⟨oc, fs, t, goc, dat, at1⟩, _, _⟩ := e0.hok c _ eco
  have ln := L.len _ _ _ _ z
  have lim : s.heap.NoLimit := e0.mod.nolimit.keeps fun b o e => (e0.bs b o e).1
  have kinds : ∀ y ∈ ps.zip us, sc.names.lookup y.1 = some .local ∨ (sc.names.lookup y.1 = some .cell ∧ ((cellsFrom (s.heap.objs.size + 1) sc.names []).lookup y.1).isSome = true) := fun ⟨n, v⟩ m => by
    rcases L.S.par n (List.of_mem_zip m).1 with e | e
    · exact .inl e
    · exact .inr ⟨e, PySem.W.cellsFrom_some _ _ _ (.inl e)⟩
  refine PySem.W.kla_callFunE hr.depth gf rfl L.S.co L.S.gen rfl ⟨c, oc, fs, t, rfl, goc, dat, at1⟩ ?_
  rw [L.bind us _ _ _ (by rw [← r.length]; exact ln)]
  refine wpAny_pure (wpAny_newFunctionEnv_cells L.S.kind kinds fun env he s1 x => ?_)
  subst he
  refine ⟨lim.keeps x.toInCall.keep, PySem.W.kla_codeExpr ?_⟩
  obtain ⟨te, pe, hq⟩ := L.run f c A outer s H vs Q E (hr.deeper _) z
  have I : Inv (cxOf CX P w K mg base N q sc f (.ref c) A outer s H E) [] (L2.start N vs) H s1 := inv_start L.S hr.hd e0 ln r x
  refine wpAny_mono (pe.run [] s1 _ H Q I hq) (fun v s2 ⟨y, H2, J, rv, q2⟩ => ?_) fun _ _ e => e
  exact ⟨y, H2, J.os, J.bare, J.base, J.hok, rv, q2⟩
end
/-- the value at f may be called: a def of the text, or a lambda -/
def tVarL (P : Program) (w : World) (K : PySem.W.Frag) (mg : Str → Option Value) (base : Heap) (lv i : Nat) (sp : Sp) (E : L2.St → XK) (ta : TA) : TE := fun σ H Q => ∃ f, σ[i]? = some (some (.ref f)) ∧
  ((DfX P w K mg base lv f sp ∧ ta σ H fun vs H1 => sp vs H1 Q (E σ)) ∨
   (∃ q prm bod sc c N ps j, LmOk P w K mg base (L2.CX P w) j q prm bod sc N ps sp ∧ j + 1 ≤ lv ∧ H f = some (LamO q prm bod sc c f) ∧ ta σ H fun vs H1 => H1 f = some (LamO q prm bod sc c f) ∧ H1 c = some (CodeO c q) ∧ sp vs H1 Q (E σ)))
theorem fn_at {X : Cx} {pins : List (Addr × Obj)} {σ : L2.St} {H : Hp} {s : Shared} {q : Str} {prm : Arguments} {bod : Expr} {sc : Scope} {c f : Addr} (I : Inv X pins σ H s) (e : H f = some (LamO q prm bod sc c f)) : PySem.W.FnAt f s.heap := by
  obtain ⟨⟨pm, ct, g⟩, _, _⟩ := I.hok f _ e
  exact ⟨_, _, _, _, g⟩
theorem pe_varL {X : Cx} {a : Str} {lv i : Nat} {sp : Sp} {E : L2.St → XK} {p pos : Pos} {e : Expr} {es : List Expr} {ta : TA} (nm : X.N[i]? = some a) (vis : Vis X.env.scope a) (hr : Room lv X.A) (hx : ∀ σ, PassesAt (L2.CX X.prog X.w) X σ (E σ)) (ha : PA X (e :: es) ta)
    (d1 : (a == ("__debug__" : Str)) = false := by decide) (d2 : (a == ("__classdict__" : Str)) = false := by decide)
    (se : starEach (e :: es) X.env = (false, eval e X.env) :: starEach es X.env := by rfl) (spl : (backTo pos (starEach es X.env)).any (·.1) = false := by rfl) :
    PE X (.Call (.Name a p) (e :: es) [] pos) (tVarL X.prog X.w X.K X.mg X.base lv i sp E ta) := by
  refine ⟨fun pins s σ H Q I h => ?_⟩
  obtain ⟨f, ef, h⟩ := h
  rcases h with ⟨D, h⟩ | ⟨q, prm, bod, sc, c, N, ps, j, L, jl, eo, h⟩
  · exact (pe_varX (p := p) nm vis hr hx ha d1 d2 se spl).run pins s σ H Q I ⟨f, ef, D, h⟩
  · refine wpAny_Call_Name_kw (thn ((pe_var (pos := p) (i := i) nm vis d1 d2).run pins s σ H (fun v H1 => v = .ref f ∧ H1 = H) I ⟨.ref f, ef, rfl, rfl⟩) fun u s1 ⟨v, H1, I1, r1, ev, eH⟩ => ?_)
    subst ev eH
    obtain rfl : u = Value.ref f := r1
    refine PySem.W.callWith_F (fn_at I1 eo) (thn (ha.run pos pins s1 σ H1 _ I1 h) fun us s2 ⟨vs, H2, I2, r2, o2, co2, q2⟩ => ⟨fn_at I2 o2, ?_⟩) se spl
    refine wpAny_call (codeAny_mono (run_lam L (hr.mono jl) I2.env0 o2 co2 r2 q2) fun r s3 hq => ?_)
    cases r with
    | error er => exact hx σ pins H2 s2 er s3 I2 hq
    | ok fl =>
      cases fl with
      | ret u => exact I2.after hq
      | next => exact False.elim hq
      | brk => exact False.elim hq
      | cont => exact False.elim hq
end Lp

/-! closures with parameters: made, handed to a def, called there. The def's promise is known over every greater base: the maker's cells lie in it. -/
namespace Cq
open PySem PySem.Spec PyProof.Rows L2 Hb LamX Lc Lp
/-! ### greater bases -/
structure LeB (K : PySem.W.Frag) (mg : Str → Option Value) (b b' : Heap) : Prop where
  mod : Mod K mg b
  get : ∀ a o, b.get? a = some o → b'.get? a = some o
  size : b.objs.size ≤ b'.objs.size
theorem LeB.refl {K : PySem.W.Frag} {mg : Str → Option Value} {b : Heap} (M : Mod K mg b) : LeB K mg b b := ⟨M, fun _ _ h => h, Nat.le_refl _⟩
section
variable {P : Program} {w : World} {K : PySem.W.Frag} {mg : Str → Option Value} {base base' : Heap}
theorem env0_down {A : Around} {outer : List Env} {s : Shared} {H : Hp} (le : LeB K mg base base') (e : Env0 P w K mg base' A outer s H) : Env0 P w K mg base A outer s H :=
  ⟨e.frames, le.mod, fun b o h => e.bs b o (le.get b o h), Nat.le_trans le.size e.bsz, funFrames_none e.funs (fun L hL => by
    cases q : base.get? L with
    | none => rfl
    | some o =>
      have := (e.funs.mem hL).1
      rw [le.get L o q] at this
      cases this), e.frf, e.hok, e.bare⟩
theorem FnOk.up {CX : CXT} {k : Nat} {f : Addr} {fd : FuncData} {ps : List Str} {sp : Sp} (F : FnOk P w K mg base CX k f fd ps sp) (le : LeB K mg base base') : FnOk P w K mg base' CX k f fd ps sp :=
  ⟨F.len, fun A outer s H args us vs Q E hr e0 => F.run A outer s H args us vs Q E hr (env0_down le e0)⟩
/-! ### the heap without what is tracked and without the frames -/
def hidF (h : Heap) (H : Hp) (fs : List Addr) : Heap := PySem.W.hideAll (hidT h H) fs
theorem hidF_get {h : Heap} {H : Hp} {fs : List Addr} {b : Addr} {o : Obj} (e : h.get? b = some o) (n : H b = none) (m : b ∉ fs) : (hidF h H fs).get? b = some o :=
  PySem.W.hideAll_get _ (hidT_get e n) m
theorem of_hidF {h : Heap} {H : Hp} {fs : List Addr} {b : Addr} {o : Obj} (e : (hidF h H fs).get? b = some o) : h.get? b = some o ∧ H b = none ∧ b ∉ fs := by
  obtain ⟨e1, e2⟩ := of_hidT (PySem.W.of_hideAll fs e)
  refine ⟨e1, e2, fun m => ?_⟩
  have z : (hidF h H fs).get? b = none := PySem.W.hideAll_none fs m
  rw [z] at e; cases e
theorem hidF_size (h : Heap) (H : Hp) (fs : List Addr) : (hidF h H fs).objs.size = h.objs.size := (PySem.W.hideAll_size _ _).trans (hidT_size _ _)
end
section
variable {X : Cx} {pins : List (Addr × Obj)} {σ : L2.St} {H : Hp} {s : Shared}
theorem le_hid (I : Inv X pins σ H s) : LeB X.K X.mg X.base (hidF s.heap H (frs X.stack)) :=
  ⟨I.mod, fun a o e => hidF_get (I.bs a o e).1 (I.bs a o e).2 fun m => by
    have := (I.stack.mem m).1
    rw [e] at this; exact (nomatch this), by rw [hidF_size]; exact Nat.le_trans I.ok.bsz I.sz⟩
theorem env0_hid (I : Inv X pins σ H s) : Env0 X.prog X.w X.K X.mg (hidF s.heap H (frs X.stack)) X.A X.stack s H := by
  have e := I.env0
  have le := le_hid I
  refine ⟨e.frames, ?_, fun b o h => ⟨(of_hidF h).1, (of_hidF h).2.1⟩, Nat.le_of_eq (hidF_size _ _ _), funFrames_none e.funs fun L hL => ?_, e.frf, e.hok, e.bare⟩
  · have M := I.mod
    have ns : ∀ {b : Addr} {m : Str → Option Value}, X.base.Ns b m → (hidF s.heap H (frs X.stack)).Ns b m := fun {b m} ⟨o, es, ep, e, d, r⟩ => ⟨o, es, ep, le.get _ _ e, d, r⟩
    exact ⟨M.kin.keeps le.get, ns M.glob, let ⟨mb, h1, h2⟩ := M.blt; ⟨mb, ns h1, h2⟩, M.nolimit.keeps le.get⟩
  · exact PySem.W.hideAll_none _ hL
/-- what X's cells hold, in a base -/
structure CelB (X : Cx) (σ : L2.St) (b : Heap) : Prop where
  inj : ∀ x y c, X.env.cells.lookup x = some c → X.env.cells.lookup y = some c → x = y
  all : ∀ x c, X.env.cells.lookup x = some c → ∃ o v, b.get? c = some o ∧ o.data = .cell v
  has : ∀ x, (X.env.scope.names.lookup x = some .cell ∨ X.env.scope.names.lookup x = some .free) → ∃ c, X.env.cells.lookup x = some c
  val : ∀ (i : Nat) x v, X.N[i]? = some x → σ[i]? = some (some v) → (X.env.scope.names.lookup x = some .cell ∨ X.env.scope.names.lookup x = some .free) → ∃ c o u, X.env.cells.lookup x = some c ∧ b.get? c = some o ∧ o.data = .cell (some u) ∧ RelV v u
theorem celB_hid (I : Inv X pins σ H s) (hfn : ∀ x, X.fn x = true) : CelB X σ (hidF s.heap H (frs X.stack)) := by
  have nf : ∀ x c, X.env.cells.lookup x = some c → c ∉ frs X.stack := fun x c e m => by
    rcases List.mem_cons.mp (I.stkSub c m) with z | z
    · exact I.cne x c e z
    · obtain ⟨_, o, ho, _⟩ := I.ok.funs.mem z
      exact absurd (Nat.lt_of_lt_of_le (Heap.lt_size ho) (I.ok.cab x c (hfn x) e)) (Nat.lt_irrefl _)
  refine ⟨I.ok.inj, fun x c e => ?_, I.ok.has, fun i x v h1 h2 h3 => ?_⟩
  · obtain ⟨v, o, ho, hd⟩ := I.cell x c e
    exact ⟨o, v, hidF_get ho (I.freeC x c e) (nf x c e), hd⟩
  · obtain ⟨m, hn, hl⟩ := I.loc
    obtain ⟨u, r, q⟩ := hl i x v h1 h2 (h3.elim (fun k => .inr (.inl k)) fun k => .inr (.inr k))
    rcases q with ⟨k, _⟩ | ⟨_, c, e, o, ho, hd⟩
    · have k : X.env.scope.names.lookup x = some .local := k
      rcases h3 with z | z <;> rw [z] at k <;> cases k
    · exact ⟨c, o, u, e, hidF_get ho (I.freeC x c e) (nf x c e), hd, r⟩
end
/-! ### the closure -/
def CloO (q : Str) (prm : Arguments) (bod : Expr) (sc : Scope) (cl : List (Str × Addr)) (c f : Addr) : HO := .ext fun h => ∃ pm ct : Value, h.get? f = some (PySem.W.kla_obj "<lambda>" q prm bod sc cl pm c ct)
section
variable {X : Cx} {pins : List (Addr × Obj)} {σ : L2.St} {H : Hp} {s : Shared}
theorem laid_clo {q : Str} {prm : Arguments} {bod : Expr} {sc : Scope} {cl : List (Str × Addr)} {pm ct : Value} {c : Addr} {h' : Heap} {t t' : Nat} (I : Inv X pins σ H { s with heap := h', toks := t }) :
    Inv X pins σ (upd H h'.objs.size (CloO q prm bod sc cl c h'.objs.size)) { s with heap := h'.push (PySem.W.kla_obj "<lambda>" q prm bod sc cl pm c ct), toks := t' } := by
  have at_ : (h'.push (PySem.W.kla_obj "<lambda>" q prm bod sc cl pm c ct)).get? h'.objs.size = some (PySem.W.kla_obj "<lambda>" q prm bod sc cl pm c ct) := Heap.get?_push_size _ rfl
  exact I.laid (t' := t') (fun b u e => Heap.get?_push_of_some _ e) (Nat.le_refl _) (show ObjOk _ _ _ _ _ (CloO q prm bod sc cl c h'.objs.size) from ⟨⟨pm, ct, at_⟩, ⟨_, at_⟩, fun h1 h2 ⟨a, b, e⟩ st => ⟨a, b, st _ e⟩⟩)
theorem make_clo {T : List (Addr × Str)} {c P : Addr} {prm : Arguments} {bod : Expr} {sc : Scope} {pos : Pos} {E Q : Value → Shared → Prop} (I : Inv X pins σ H s) (tb : TabB X.base X.mg c P) (ec : X.env.code = .ref c)
    (inT : (P, X.env.qual ++ "<lambda>") ∈ T) (one : ∀ y ∈ T, y.1 = P → y.2 = X.env.qual ++ "<lambda>") (tt : Tabs T H) (nd : defaultsOf prm X.env = ([], [])) (nf : ∀ y ∈ sc.names, y.2 = .free → ∃ c, X.env.cells.lookup y.1 = some c)
    (k : ∀ (f c1 : Addr) (H1 : Hp) (s1 : Shared), Inv X pins σ (upd H1 f (CloO (X.env.qual ++ "<lambda>") prm bod sc (cloFrom X.env.cells sc.names []) c1 f)) s1 → ExtN H H1 → Tabs T H1 → H1 f = none → H1 c1 = some (CodeO c1 (X.env.qual ++ "<lambda>")) → Q (.ref f) s1) :
    wpAny (model X.prog X.w) X.A (eval (.Lambda prm bod sc pos) X.env) Q E s := by
  obtain ⟨ps, tP, tok, tall⟩ := tt _ inT
  have clo : closureFor sc X.env = pure (cloFrom X.env.cells sc.names []) := closure_ok nf
  have bts : s.heap.BuiltinsAt X.mg P := tb.bm.keeps I.bk
  have tP0 : s.heap.get? P = some { cls := .none, data := .fields ps } := I.hok P _ tP
  refine PySem.W.kla_eval nd ?_
  rcases found : codeAmong pos ps.toList with _ | cv
  · refine PySem.W.kla_makeFunction (clos := cloFrom X.env.cells sc.names []) (mg := X.mg) (c := c) (P := P) (ps := ps) clo I.ok.glob (I.mod.glob.keeps I.bk) ec (tb.code.keeps I.bk) tP0 tok found tb.gP bts fun c1 ct h1 tk ext new lt rec tab => ?_
    obtain ⟨c2, oc, fs, t, eq2, goc, dat, at1⟩ := rec
    cases eq2
    have nc : H c1 = none := I.hok.fresh new
    have J := inv_table (t' := tk) (more := #[rawInt pos.line, rawInt pos.col, .ref c1]) I tP ext tab new ⟨oc, fs, t, goc, dat, at1⟩
    have xt : ExtN H (upd (upd H P (.tbl (ps ++ #[rawInt pos.line, rawInt pos.col, .ref c1]))) c1 (CodeO c1 (X.env.qual ++ "<lambda>"))) := fun b o e nt => by
      have n1 : b ≠ P := fun z => by rw [z, tP] at e; exact nt ps (Option.some.inj e).symm
      rw [upd_ne (ne_of_none e nc), upd_ne n1]; exact e
    have tl : (ps ++ #[rawInt pos.line, rawInt pos.col, .ref c1]).toList = ps.toList ++ [rawInt pos.line, rawInt pos.col, .ref c1] := Array.toList_append
    have sz : s.heap.objs.size ≤ h1.objs.size := Nat.le_trans new (Nat.le_of_lt lt)
    refine k h1.objs.size c1 _ _ (laid_clo J) xt (fun y m => ?_) ?_ upd_same
    · rcases Decidable.em (y.1 = P) with e | e
      · rw [one y m e, e]
        refine ⟨_, by rw [upd_ne (ne_of_none tP nc), upd_same], by rw [tl]; exact PySem.TriplesOk_snoc _ _ _ _ tok, fun p1 cv e1 => ?_⟩
        rw [tl] at e1
        rcases among_app _ tok e1 with z | z
        · obtain ⟨c0, a1, a2⟩ := tall p1 cv z
          exact ⟨c0, a1, xt _ _ a2 codeO_ne⟩
        · exact ⟨c1, z, upd_same⟩
      · obtain ⟨qs, a1, a2, a3⟩ := tt y m
        refine ⟨qs, by rw [upd_ne (ne_of_none a1 nc), upd_ne e]; exact a1, a2, fun p1 cv e1 => ?_⟩
        obtain ⟨c0, b1, b2⟩ := a3 p1 cv e1
        exact ⟨c0, b1, xt _ _ b2 codeO_ne⟩
    · rw [upd_ne (Nat.ne_of_gt lt), upd_ne (Nat.ne_of_gt (Nat.lt_of_lt_of_le (Heap.lt_size tP0) sz))]
      exact I.hok.fresh sz
  · obtain ⟨c1, rfl, co⟩ := tall pos cv found
    refine PySem.W.kla_makeFunctionHit (clos := cloFrom X.env.cells sc.names []) (mg := X.mg) (c := c) (P := P) (ps := ps) clo I.ok.glob (I.mod.glob.keeps I.bk) ec (tb.code.keeps I.bk) tP0 tok found bts fun ct h1 tk ext sz => ?_
    have J : Inv X pins σ H { s with heap := h1, toks := tk } := I.kept ext
    exact k h1.objs.size c1 H _ (laid_clo J) (ExtN.refl H) tt (I.hok.fresh sz) co
/-- lambda a, b, ..: e, which captures names of X -/
def tClo (X : Cx) (T : List (Addr × Str)) (prm : Arguments) (bod : Expr) (sc : Scope) : TE := fun _ H Q => Tabs T H ∧ ∀ f c1 H1, ExtN H H1 → Tabs T H1 → H1 f = none → H1 c1 = some (CodeO c1 (X.env.qual ++ "<lambda>")) → Q (.ref f) (upd H1 f (CloO (X.env.qual ++ "<lambda>") prm bod sc (cloFrom X.env.cells sc.names []) c1 f))
theorem pe_clo {T : List (Addr × Str)} {c P : Addr} {prm : Arguments} {bod : Expr} {sc : Scope} {pos : Pos} (tb : TabB X.base X.mg c P) (ec : X.env.code = .ref c) (inT : (P, X.env.qual ++ "<lambda>") ∈ T) (one : ∀ y ∈ T, y.1 = P → y.2 = X.env.qual ++ "<lambda>")
    (nd : defaultsOf prm X.env = ([], [])) (nf : ∀ y ∈ sc.names, y.2 = .free → X.env.scope.names.lookup y.1 = some .cell ∨ X.env.scope.names.lookup y.1 = some .free) : PE X (.Lambda prm bod sc pos) (tClo X T prm bod sc) :=
  ⟨fun pins s σ H Q I h => make_clo I tb ec inT one h.1 nd (fun y m e => I.ok.has _ (nf y m e)) fun f c1 H1 s1 J xt t1 n1 e1 => ⟨.ref f, _, J, rfl, h.2 f c1 H1 xt t1 n1 e1⟩⟩
end
/-! ### its run -/
/-- the captured values, by the closure's cells -/
structure Cels (b : Heap) (sc : Scope) (cl : List (Str × Addr)) (caps : List Str) (cvs : List V) : Prop where
  len : cvs.length = caps.length
  inj : ∀ x y c, cl.lookup x = some c → cl.lookup y = some c → x = y
  all : ∀ x c, cl.lookup x = some c → ∃ o v, b.get? c = some o ∧ o.data = .cell v
  has : ∀ x, sc.names.lookup x = some .free → ∃ c, cl.lookup x = some c
  val : ∀ (i : Nat) x v, caps[i]? = some x → cvs[i]? = some v → ∃ c o u, cl.lookup x = some c ∧ b.get? c = some o ∧ o.data = .cell (some u) ∧ RelV v u
theorem clo_in {cells : List (Str × Addr)} {sc : Scope} (hf : ∀ y ∈ sc.names, y.2 = .free → ∃ c, cells.lookup y.1 = some c) {y : Str} {c : Addr} (e : (cloFrom cells sc.names []).lookup y = some c) : cells.lookup y = some c := by
  rcases cloFrom_mem (PySem.mem_of_lookup e) with hm | ⟨h1, h2⟩
  · cases hm
  · obtain ⟨c1, hc⟩ := hf _ h1 rfl
    have hc : cells.lookup y = some c1 := hc
    have e2 : c = c1 := by
      rw [h2, hc] <;> rfl
    rw [e2]
    exact hc
theorem clo_out {cells : List (Str × Addr)} {sc : Scope} {y : Str} (h : sc.names.lookup y = some .free) : ∃ c, (cloFrom cells sc.names []).lookup y = some c :=
  mem_lookup (cloFrom_has (cells := cells) (acc := []) (PySem.mem_of_lookup h))
/-- slots of X that hold the captured names -/
theorem Cels.of {X : Cx} {σ : L2.St} {b : Heap} {sc : Scope} {caps : List Str} {cvs : List V} (C : CelB X σ b) (fr : ∀ y ∈ sc.names, y.2 = .free → X.env.scope.names.lookup y.1 = some .cell ∨ X.env.scope.names.lookup y.1 = some .free)
    (hc : ∀ x ∈ caps, sc.names.lookup x = some .free) (len : cvs.length = caps.length) (hj : ∀ (i : Nat) x v, caps[i]? = some x → cvs[i]? = some v → ∃ j : Nat, X.N[j]? = some x ∧ σ[j]? = some (some v)) : Cels b sc (cloFrom X.env.cells sc.names []) caps cvs := by
  have hf : ∀ y ∈ sc.names, y.2 = .free → ∃ c, X.env.cells.lookup y.1 = some c := fun y m e => C.has _ (fr y m e)
  refine ⟨len, fun x y c e1 e2 => C.inj x y c (clo_in hf e1) (clo_in hf e2), fun x c e => C.all x c (clo_in hf e), fun x e => clo_out e, fun i x v e1 e2 => ?_⟩
  obtain ⟨j, e3, e4⟩ := hj i x v e1 e2
  have hx := hc x (List.mem_of_getElem? e1)
  obtain ⟨c, o, u, q1, q2, q3, q4⟩ := C.val j x v e3 e4 (fr _ (PySem.mem_of_lookup hx) rfl)
  obtain ⟨c', q5⟩ := clo_out (cells := X.env.cells) hx
  have q6 := clo_in hf q5
  rw [q1] at q6
  cases q6
  exact ⟨c, o, u, q5, q2, q3, q4⟩
abbrev cloEnv (q : Str) (sc : Scope) (L f c : Addr) (cl : List (Str × Addr)) : Env := PySem.W.envX q sc L f (.ref c) cl
/-- the context of the closure's body -/
def cloCx (P : Program) (w : World) (K : PySem.W.Frag) (mg : Str → Option Value) (base : Heap) (N : List Str) (A : Around) (outer : List Env) (s : Shared) (H : Hp) (E : XK) (q : Str) (sc : Scope) (f c : Addr) (cl : List (Str × Addr)) : Cx where
  prog := P
  w := w
  K := K
  mg := mg
  base := base
  A := A.deeper (cloEnv q sc s.heap.objs.size f c cl)
  N := N
  s_0 := s
  H_0 := H
  env := cloEnv q sc s.heap.objs.size f c cl
  outer := outer
  stack := cloEnv q sc s.heap.objs.size f c cl :: outer
  ex := []
  fn := fun _ => false
  calm := true
  pn := []
  xe := fun e s' => wpAny (model P w) (A.deeper (cloEnv q sc s.heap.objs.size f c cl)) (leaving (cloEnv q sc s.heap.objs.size f c cl) e) (fun _ s'' => L2.CX P w outer H s E e s'') (fun e' s'' => L2.CX P w outer H s E e' s'') s'
theorem look_rev : ∀ {ps : List Str} {us : List Value} {i : Nat} {y : Str} {u : Value}, ps.Nodup → ps[i]? = some y → us[i]? = some u → (ps.zip us).reverse.lookup y = some u
  | [], _, _, _, _, _, e, _ => by simp at e
  | p :: ps, [], _, _, _, _, _, e => by simp at e
  | p :: ps, v :: us, i, y, u, nd, e1, e2 => by
    rw [List.zip_cons_cons, List.reverse_cons]
    have app : ∀ (l m : List (Str × Value)) (z : Str), (l ++ m).lookup z = (l.lookup z).or (m.lookup z) := fun l m z => by
      induction l with
      | nil => rfl
      | cons a l ih =>
        obtain ⟨k, v⟩ := a
        rw [List.cons_append, List.lookup_cons, List.lookup_cons]
        cases z == k
        · exact ih
        · rfl
    rw [app]
    cases i with
    | zero =>
      obtain rfl : p = y := Option.some.inj e1
      obtain rfl : v = u := Option.some.inj e2
      have z : (ps.zip us).reverse.lookup p = none := by
        cases h : (ps.zip us).reverse.lookup p with
        | none => rfl
        | some a =>
          have m := PySem.mem_of_lookup h
          exact absurd (List.of_mem_zip (List.mem_reverse.mp m)).1 (List.nodup_cons.mp nd).1
      rw [z]
      simp
    | succ i =>
      have e1 : ps[i]? = some y := e1
      have e2 : us[i]? = some u := e2
      rw [look_rev (List.nodup_cons.mp nd).2 e1 e2]; rfl
structure LmC (P : Program) (w : World) (K : PySem.W.Frag) (mg : Str → Option Value) (base : Heap) (j : Nat) (q : Str) (prm : Arguments) (bod : Expr) (sc : Scope) (ps caps : List Str) (sp : List V → Sp) : Prop where
  kind : sc.kind = .function
  co : sc.isCoroutine = false
  gen : sc.isGenerator = false
  noc : ∀ y ∈ sc.names, y.2 ≠ .cell
  loc : ∀ x ∈ ps, sc.names.lookup x = some .local
  fre : ∀ x ∈ caps, sc.names.lookup x = some .free
  nd : ps.Nodup
  len : ∀ cvs vs H Q E, sp cvs vs H Q E → vs.length = ps.length
  bind : ∀ (us : List Value) (cl : List (Str × Addr)) (pm cv ct : Value), us.length = ps.length → bindArgs (PySem.W.kla_fn "<lambda>" q prm bod sc cl pm cv ct) ⟨us, []⟩ = pure (ps.zip us)
  run : ∀ (cvs : List V) (f c : Addr) (cl : List (Str × Addr)) (A : Around) (outer : List Env) (s : Shared) (H : Hp) (vs : List V) (Q : VK) (E : XK), Room j (A.deeper (cloEnv q sc s.heap.objs.size f c cl)) → cvs.length = caps.length → sp cvs vs H Q E →
    ∃ te, PE (cloCx P w K mg base (ps ++ caps) A outer s H E q sc f c cl) bod te ∧ te ((vs ++ cvs).map some) H Q
section
variable {P : Program} {w : World} {K : PySem.W.Frag} {mg : Str → Option Value} {base : Heap} {j : Nat} {q : Str} {prm : Arguments} {bod : Expr} {sc : Scope} {ps caps : List Str} {sp : List V → Sp}
theorem run_clo (L : LmC P w K mg base j q prm bod sc ps caps sp) {f c : Addr} {cl : List (Str × Addr)} {cvs : List V} {A : Around} {outer : List Env} {s : Shared} {H : Hp} {us : List Value} {vs : List V} {Q : VK} {E : XK} (hr : Room (j + 1) A) (e0 : Env0 P w K mg base A outer s H)
    (ef : H f = some (CloO q prm bod sc cl c f)) (eco : H c = some (CodeO c q)) (C : Cels base sc cl caps cvs) (r : Vals vs us) (z : sp cvs vs H Q E) :
    codeAny (model P w) A (.call (.ref f) ⟨us, []⟩) (CR (L2.CX P w) outer P w H s Q E) s := by
  obtain ⟨⟨pm, ct, gf⟩, _, _⟩ := e0.hok f _ ef
  obtain ⟨⟨oc, fs, t, goc, dat, at1⟩, _, _⟩ := e0.hok c _ eco
  have ln := L.len _ _ _ _ _ z
  have lu : us.length = ps.length := by rw [← r.length]; exact ln
  have lim : s.heap.NoLimit := e0.mod.nolimit.keeps fun b o e => (e0.bs b o e).1
  have nr := hr.deeper (cloEnv q sc s.heap.objs.size f c cl)
  refine PySem.W.kla_callFunE hr.depth gf rfl L.co L.gen rfl ⟨c, oc, fs, t, rfl, goc, dat, at1⟩ ?_
  rw [L.bind us cl _ _ _ lu]
  refine wpAny_pure (wpAny_newFunctionEnv L.noc (fun y hy => L.loc _ (List.of_mem_zip hy).1) (fun h₁ hns hsb => ⟨lim.fresh _ hsb, ?_⟩) L.kind)
  show codeAny _ _ (.expr bod (cloEnv q sc s.heap.objs.size f c cl)) _ _
  have kp : ∀ b o, s.heap.get? b = some o → h₁.get? b = some o := fun b o e => hsb.extBut b o (Nat.ne_of_lt (Heap.lt_size e)) (Heap.get?_push_of_some _ e)
  obtain ⟨te, pe, hq⟩ := L.run cvs f c cl A outer s H vs Q E nr C.len z
  have noA : ∀ b : Addr, b ∉ (cloCx P w K mg base (ps ++ caps) A outer s H E q sc f c cl).ex := fun b z => absurd (show b ∈ ([] : List Addr) from z) (by simp)
  have J : Inv (cloCx P w K mg base (ps ++ caps) A outer s H E q sc f c cl) [] ((vs ++ cvs).map some) H { s with heap := h₁, toks := s.toks + (ps.zip us).length } := by
    refine ⟨⟨e0.mod, L.kind, rfl, rfl, Nat.le_refl _, C.inj, fun y hy => ?_, fun y c z _ => ?_, fun _ => hr.hd, Around.frames_deeper e0.frames, .inr ⟨rfl, rfl⟩, fun b z => absurd z (noA b), e0.bs, e0.bsz, fun b _ _ => noA b, fun b z => absurd z (noA b), e0.funs, e0.frf⟩,
      rfl, e0.bare, Un.kept kp, ⟨_, hns, fun i y v e1 e2 e3 => ?_⟩, fun y c e => ?_, e0.hok.fresh (Nat.le_refl _), fun y c e => ?_, fun q hq => absurd (show q ∈ ([] : List (Addr × Obj)) ++ [] from hq) (by simp), e0.hok.kept kp, ?_⟩
    · have hy : sc.names.lookup y = some .cell ∨ sc.names.lookup y = some .free := hy
      rcases hy with hy | hy
      · exact absurd rfl (L.noc _ (PySem.mem_of_lookup hy))
      · exact C.has y hy
    · have z : false = true := z
      cases z
    · have e1 : (ps ++ caps)[i]? = some y := e1
      rw [List.getElem?_map] at e2
      obtain ⟨v', e4, e5⟩ := Option.map_eq_some_iff.mp e2
      cases e5
      by_cases hi : i < ps.length
      · rw [List.getElem?_append_left hi] at e1
        rw [List.getElem?_append_left (by omega)] at e4
        obtain ⟨u, hu, rv⟩ := r.get e4
        exact ⟨u, rv, .inl ⟨L.loc y (List.mem_of_getElem? e1), look_rev L.nd e1 hu⟩⟩
      · rw [List.getElem?_append_right (by omega)] at e1
        rw [List.getElem?_append_right (by omega), ln] at e4
        obtain ⟨c1, o, u, q1, q2, q3, q4⟩ := C.val _ _ _ e1 e4
        exact ⟨u, q4, .inr ⟨.inr (L.fre y (List.mem_of_getElem? e1)), c1, q1, o, kp _ _ (e0.bs _ _ q2).1, q3⟩⟩
    · obtain ⟨o, v, q1, q2⟩ := C.all y c e
      exact ⟨v, o, kp _ _ (e0.bs _ _ q1).1, q2⟩
    · obtain ⟨o, v, q1, q2⟩ := C.all y c e
      exact (e0.bs _ _ q1).2
    · show ((vs ++ cvs).map some).length = (ps ++ caps).length
      rw [List.length_map, List.length_append, List.length_append, ln, C.len]
  refine PySem.W.kla_codeExpr (wpAny_mono (pe.run [] _ _ H Q J hq) (fun v s' hq => ?_) fun e s' hq => hq)
  obtain ⟨w', H', J', rv, q⟩ := hq
  exact ⟨w', H', J'.os, J'.bare, J'.base, J'.hok, rv, q⟩
end
/-! ### a value that may be called -/
structure CallV (P : Program) (w : World) (K : PySem.W.Frag) (mg : Str → Option Value) (base : Heap) (lv : Nat) (sp : Sp) (H : Hp) (f : Addr) : Prop where
  ex : ∃ fs : List (Addr × HO), (∀ p ∈ fs, H p.1 = some p.2 ∧ ∃ φ, p.2 = .ext φ) ∧ (∀ A outer s H', Env0 P w K mg base A outer s H' → (∀ p ∈ fs, H' p.1 = some p.2) → PySem.W.FnAt f s.heap) ∧
    ∀ (A : Around) (outer : List Env) (s : Shared) (H' : Hp) (us : List Value) (vs : List V) (Q : VK) (E : XK), Room lv A → Env0 P w K mg base A outer s H' → (∀ p ∈ fs, H' p.1 = some p.2) → Vals vs us → sp vs H' Q E → codeAny (model P w) A (.call (.ref f) ⟨us, []⟩) (CR (L2.CX P w) outer P w H' s Q E) s
section
variable {P : Program} {w : World} {K : PySem.W.Frag} {mg : Str → Option Value} {base : Heap} {lv j : Nat} {H H' : Hp} {f c : Addr}
theorem CallV.keep {sp : Sp} (V : CallV P w K mg base lv sp H f) (k : ∀ b φ, H b = some (.ext φ) → H' b = some (.ext φ)) : CallV P w K mg base lv sp H' f := by
  obtain ⟨fs, h1, h2, h3⟩ := V
  refine ⟨fs, fun p m => ?_, h2, h3⟩
  obtain ⟨e, φ, z⟩ := h1 p m
  rw [z] at e ⊢
  exact ⟨k _ _ e, φ, rfl⟩
theorem CallV.same {sp : Sp} (V : CallV P w K mg base lv sp H f) (s : Same H H') : CallV P w K mg base lv sp H' f := V.keep fun b φ e => s _ _ e
theorem CallV.imp {sp sp' : Sp} (V : CallV P w K mg base lv sp H f) (h : ∀ vs H Q E, sp' vs H Q E → sp vs H Q E) : CallV P w K mg base lv sp' H f :=
  let ⟨fs, h1, h2, h3⟩ := V
  ⟨fs, h1, h2, fun A outer s H' us vs Q E hr e0 ef r z => h3 A outer s H' us vs Q E hr e0 ef r (h _ _ _ _ z)⟩
theorem CallV.clo {q : Str} {prm : Arguments} {bod : Expr} {sc : Scope} {ps caps : List Str} {sp : List V → Sp} {cl : List (Str × Addr)} {cvs : List V} (L : LmC P w K mg base j q prm bod sc ps caps sp) (C : Cels base sc cl caps cvs) (ef : H f = some (CloO q prm bod sc cl c f)) (eco : H c = some (CodeO c q)) (jl : j + 1 ≤ lv) : CallV P w K mg base lv (sp cvs) H f := by
  refine ⟨[(f, CloO q prm bod sc cl c f), (c, CodeO c q)], fun p m => ?_, fun A outer s H' e0 ek => ?_, fun A outer s H' us vs Q E hr e0 ek r z => ?_⟩
  · rcases List.mem_cons.mp m with rfl | m
    · exact ⟨ef, _, rfl⟩
    · rw [List.mem_singleton.mp m]; exact ⟨eco, _, rfl⟩
  · have e1 := ek _ (.head _)
    obtain ⟨⟨pm, ct, g⟩, _, _⟩ := e0.hok f _ e1
    exact ⟨_, _, _, _, g⟩
  · exact run_clo L (hr.mono jl) e0 (ek _ (.head _)) (ek _ (.tail _ (.head _))) C r z
end
/-- a(e, ..), a a name that holds such a value -/
def tVarV (P : Program) (w : World) (K : PySem.W.Frag) (mg : Str → Option Value) (base : Heap) (lv i : Nat) (sp : Sp) (E : L2.St → XK) (ta : TA) : TE := fun σ H Q => ∃ f, σ[i]? = some (some (.ref f)) ∧ CallV P w K mg base lv sp H f ∧ ta σ H fun vs H1 => CallV P w K mg base lv sp H1 f ∧ sp vs H1 Q (E σ)
theorem pe_varV {X : Cx} {a : Str} {lv i : Nat} {sp : Sp} {E : L2.St → XK} {p pos : Pos} {e : Expr} {es : List Expr} {ta : TA} (nm : X.N[i]? = some a) (vis : Vis X.env.scope a) (hr : Room lv X.A) (hx : ∀ σ, PassesAt (L2.CX X.prog X.w) X σ (E σ)) (ha : PA X (e :: es) ta)
    (d1 : (a == ("__debug__" : Str)) = false := by decide) (d2 : (a == ("__classdict__" : Str)) = false := by decide)
    (se : starEach (e :: es) X.env = (false, eval e X.env) :: starEach es X.env := by rfl) (spl : (backTo pos (starEach es X.env)).any (·.1) = false := by rfl) :
    PE X (.Call (.Name a p) (e :: es) [] pos) (tVarV X.prog X.w X.K X.mg X.base lv i sp E ta) := by
  refine ⟨fun pins s σ H Q I h => ?_⟩
  obtain ⟨f, ef, ⟨fs, k1, k2, k3⟩, h⟩ := h
  refine wpAny_Call_Name_kw (thn ((pe_var (pos := p) (i := i) nm vis d1 d2).run pins s σ H (fun v H1 => v = .ref f ∧ H1 = H) I ⟨.ref f, ef, rfl, rfl⟩) fun u s1 ⟨v, H1, I1, r1, ev, eH⟩ => ?_)
  subst ev eH
  obtain rfl : u = Value.ref f := r1
  refine PySem.W.callWith_F (k2 _ _ _ _ I1.env0 fun p m => (k1 p m).1) (thn (ha.run pos pins s1 σ H1 _ I1 h) fun us s2 ⟨vs, H2, I2, r2, ⟨gs, g1, g2, g3⟩, q2⟩ => ⟨g2 _ _ _ _ I2.env0 fun p m => (g1 p m).1, ?_⟩) se spl
  refine wpAny_call (codeAny_mono (g3 _ _ _ _ us vs _ _ hr I2.env0 (fun p m => (g1 p m).1) r2 q2) fun r s3 hq => ?_)
  cases r with
  | error er => exact hx σ pins H2 s2 er s3 I2 hq
  | ok fl =>
    cases fl with
    | ret u => exact I2.after hq
    | next => exact False.elim hq
    | brk => exact False.elim hq
    | cont => exact False.elim hq
/-! ### a def that gets such a value -/
structure Ho (P : Program) (w : World) (K : PySem.W.Frag) (mg : Str → Option Value) (base : Heap) (CX : CXT) (x : Str) (ps : List Str) (lv : Nat) (sp : Heap → Sp) : Prop where
  ex : ∃ (f : Addr) (fd : FuncData), (∀ base', LeB K mg base base' → FnOk P w K mg base' CX lv f fd ps (sp base')) ∧ mg x = some (.ref f) ∧ PySem.W.keepIn K (.ref f) = true ∧ Binds K fd ps []
def tHo (X : Cx) (sp : Heap → Sp) (E : XK) (ta : TA) : TE := fun σ H Q => ta σ H fun vs H1 => ∀ b, LeB X.K X.mg X.base b → CelB X σ b → sp b vs H1 Q E
theorem pe_ho {X : Cx} {CX : CXT} {ps : List Str} {lv : Nat} {sp : Heap → Sp} {E : XK} {x : Str} {p pos : Pos} {e : Expr} {es : List Expr} {t : TA} (C : Ho X.prog X.w X.K X.mg X.base CX x ps lv sp) (hfn : ∀ x, X.fn x = true) (hr : Room lv X.A) (hx : Passes CX X E) (hg : Gl X x) (ha : PA X (e :: es) t) (hdb : (x == ("__debug__" : Str)) = false := by decide)
    (he : starEach (e :: es) X.env = (false, eval e X.env) :: starEach es X.env := by rfl) (hpl : (backTo pos (starEach es X.env)).any (·.1) = false := by rfl) : PE X (.Call (.Name x p) (e :: es) [] pos) (tHo X sp E t) := by
  obtain ⟨f, fd, F, hm, hk, hb⟩ := C.ex
  refine ⟨fun pins s σ H Q I h => ?_⟩
  refine wpAny_Call_Name_kw (ld_glob I hg hm ?_ hdb)
  refine PySem.W.callWith_K (h₀ := X.base) I.ok.mod.kin hk (thn (ha.run pos pins s σ H _ I h) fun us s1 ⟨vs, H1, I1, r, q⟩ => ⟨I1.kIn, ?_⟩) he hpl
  have le := le_hid I1
  have z := q _ le (celB_hid I1 hfn)
  have FF := F _ le
  have hl : us.length = ps.length := by rw [← r.length]; exact FF.len _ _ _ _ z
  have bb := hb s1 us I1.kIn (by rw [List.append_nil]; exact hl)
  rw [List.append_nil] at bb
  refine wpAny_call (codeAny_mono (FF.run X.A X.stack s1 H1 ⟨us, []⟩ us vs Q E hr (env0_hid I1) bb r z) fun r s' hq => ?_)
  cases r with
  | error e => exact hx pins σ H1 s1 e s' I1 hq
  | ok fl =>
    cases fl with
    | ret u => exact I1.after hq
    | next => exact False.elim hq
    | brk => exact False.elim hq
    | cont => exact False.elim hq
end Cq

/-! sorted(xs, key=f), f a function value whose keys read as data -/
namespace PySem.W
open PySem PySem.Calls PyProof.Rows
section
variable {prog : Program} {w : World} {A : Around} {E : Value → Shared → Prop} {s : Shared} {a kS : Addr} {b : Bool} {vs : List Value} {keys : Array Value} {e e1 : Nat} {P : PySem.Fin → Shared → Prop}
theorem key_tailN {st : SortSt} {out : List Value} (nk : s.heap.get? kS = some (seqObj "list" keys e)) (na : s.heap.get? a = some (seqObj "list" #[] e1)) (hka : kS ≠ a)
    (hsz : keys.size ≤ sizeLine) (hz : out.length ≤ sizeLine) (hfl : failedOf st = none) (ho : (if b = true then ((arrOf st).map (·.2)).reverse else (arrOf st).map (·.2)) = out.toArray)
    (h : ∀ h' tk c, h'.get? a = some (seqObj "list" out.toArray c) → (∀ d o, d ≠ a → d ≠ kS → s.heap.get? d = some o → h'.get? d = some o) → (∃ o, h'.get? kS = some o) → P (.done (.ret .none)) { s with heap := h', toks := tk }) :
    wpAny (model prog w) A (ksk_tail a b e1 (.ref kS) st) P E s := by
  have s1 := Heap.SameBut.update s.heap kS (Obj.mapSeq fun _ => (#[] : Array Value))
  have na1 : (s.heap.update kS (Obj.mapSeq fun _ => (#[] : Array Value))).get? a = some (seqObj "list" #[] e1) := (s1.2 a hka.symm).trans na
  have s2 := Heap.SameBut.update (s.heap.update kS (Obj.mapSeq fun _ => (#[] : Array Value))) a (Obj.mapSeq fun _ => out.toArray)
  obtain ⟨c2, hc2⟩ : ∃ c2, ((s.heap.update kS (Obj.mapSeq fun _ => (#[] : Array Value))).update a (Obj.mapSeq fun _ => out.toArray)).get? a = some (seqObj "list" out.toArray c2) :=
    ⟨_, get?_update_seq na1 fun _ => out.toArray⟩
  obtain ⟨c3, hc3⟩ : ∃ c3, (s.heap.update kS (Obj.mapSeq fun _ => (#[] : Array Value))).get? kS = some (seqObj "list" #[] c3) := ⟨_, get?_update_seq nk fun _ => #[]⟩
  have hz2 : out.toArray.size ≤ sizeLine + 1 := by
    rw [List.size_toArray]
    exact Nat.le_succ_of_le hz
  unfold ksk_tail
  try dsimp only
  rw [ho]
  refine wpAny_bind (listUpdate_at nk rfl ?_ hsz (Nat.zero_le _))
  refine wpAny_bind (wpAny_letGo ?_)
  refine wpAny_bind (seqEpoch_at na1 rfl ?_)
  refine wpAny_bind (listUpdate_at na1 rfl ?_ (Nat.zero_le _) hz2)
  rw [hfl]
  simp only [bne_self_eq_false, Bool.false_eq_true, if_false]
  exact wpAny_pure (h _ _ c2 hc2 (fun d o h1 h2 q => (s2.2 d h1).trans ((s1.2 d h2).trans q)) ⟨_, (s2.2 kS hka).trans hc3⟩)
theorem key_endN {κ : PyProof.Rows.KeyKind} (nk : s.heap.get? kS = some (seqObj "list" keys e)) (na : s.heap.get? a = some (seqObj "list" #[] e1)) (hka : kS ≠ a)
    (S : SortsAt prog w A s κ keys.toList) (hsz : keys.size = vs.length) (hZ : vs.length ≤ sizeLine)
    (h : ∀ h' tk c, h'.get? a = some (seqObj "list" (sortVals κ b keys.toList vs).toArray c) → (∀ d o, d ≠ a → d ≠ kS → s.heap.get? d = some o → h'.get? d = some o) → (∃ o, h'.get? kS = some o) → P (.done (.ret .none)) { s with heap := h', toks := tk }) :
    wpAny (model prog w) A (ksk_end a b vs.toArray e1 (.ref kS) keys) P E s := by
  obtain ⟨kd, h1, h2⟩ := S.kind
  have hkl : keys.toList.length = vs.length := by
    rw [Array.length_toList]
    exact hsz
  have hK : PyProof.Rows.KeysOf κ (keys.zip vs.toArray) := keysOf_zip S.keys
  have hol : (sortVals κ b keys.toList vs).length = vs.length := sortVals_length b hkl
  have hstart : (if b = true then (keys.zip vs.toArray).reverse else keys.zip vs.toArray).Perm (keys.zip vs.toArray) := by
    cases b with
    | false => exact Array.Perm.refl _
    | true => exact Array.perm_iff_toList_perm.mpr (by rw [if_pos rfl, Array.toList_reverse]; exact List.reverse_perm _)
  have hss : (if b = true then (keys.zip vs.toArray).reverse else keys.zip vs.toArray).size = vs.length := by rw [hstart.size_eq, Array.size_zip, hsz, List.size_toArray, Nat.min_self]
  have fin : ∀ st' : SortSt, (arrOf st').Perm (if b = true then (keys.zip vs.toArray).reverse else keys.zip vs.toArray) → SortedToK κ (arrOf st') (if b = true then (keys.zip vs.toArray).reverse else keys.zip vs.toArray).size →
      Stable κ (arrOf st') (if b = true then (keys.zip vs.toArray).reverse else keys.zip vs.toArray) → (if b = true then ((arrOf st').map (·.2)).reverse else (arrOf st').map (·.2)) = (sortVals κ b keys.toList vs).toArray := by
    intro st' hp hs ht
    have e := sort_out (rev := b) (keys := keys) (items := vs.toArray) (xs := arrOf st') (κ := κ) hK hp hs ht
    have e' := congrArg List.toArray e
    rw [Array.toArray_toList] at e'
    exact e'
  have step : ∀ t : Sem PySem.Fin, wpAny (model prog w) A t P E s → wpAny (model prog w) A (if b = true then (do let _ ← rule "list.sort.reverse"; t) else t) P E s := by
    intro t ht
    split
    · exact wpAny_bind (wpAny_rule ht)
    · exact ht
  unfold ksk_end
  try dsimp only
  refine step _ ?_
  by_cases hl2 : vs.toArray.size < 2
  · rw [if_pos hl2, if_pos hl2]
    refine wpAny_bind (wpAny_pure ?_)
    rw [StateT.run_pure]
    refine wpAny_bind (wpAny_pure ?_)
    try dsimp only
    refine key_tailN (st := SortSt.mk' general' (if b = true then (keys.zip vs.toArray).reverse else keys.zip vs.toArray) #[] 7 none) nk na hka (by rw [hsz]; exact hZ) (by rw [hol]; exact hZ) rfl (fin _ (Array.Perm.refl _) ?_ (Stable.refl _)) h
    intro i j hij hj
    rw [hss] at hj
    rw [List.size_toArray] at hl2
    have : i = j := by omega
    subst this
    exact KeyOrd.kle_refl _
  · rw [if_neg hl2, if_neg hl2]
    rw [List.size_toArray] at hl2
    refine wpAny_bind (h2 (by omega) _ ?_)
    refine wpAny_bind (wpAny_mono (H.wpS_sortRunsSt (κ := κ) (kd := kd) (a₀ := if b = true then (keys.zip vs.toArray).reverse else keys.zip vs.toArray)
      (st := SortSt.mk' kd (if b = true then (keys.zip vs.toArray).reverse else keys.zip vs.toArray) #[] 7 none)
      (Q := fun _ st' => failedOf st' = none ∧ (if b = true then ((arrOf st').map (·.2)).reverse else (arrOf st').map (·.2)) = (sortVals κ b keys.toList vs).toArray)
      h1 (hK.perm hstart) ⟨Array.Perm.refl _, rfl, rfl⟩ rfl (Stable.refl _) (by rw [hss]; omega) fun st' a1 a2 a3 a4 => ⟨a2, fin st' a1 a3 a4⟩) ?_ fun _ _ e => e)
    rintro ⟨⟨⟩, st'⟩ s' ⟨rfl, hf, ho⟩
    try dsimp only at ho ⊢
    exact key_tailN nk na hka (by rw [hsz]; exact hZ) (by rw [hol]; exact hZ) hf ho h
end
end PySem.W
namespace Sk
open PySem PySem.Spec PyProof.Rows L2 Hb Lp Cq PySem.W Sq
mutual
theorem dp_sm {K : PySem.W.Frag} {H H' : Hp} (s : Same H H') : ∀ {d : PyData} {v : V}, Dp K H v d → Dp K H' v d
  | _, _, .non => .non
  | _, _, .bl b => .bl b
  | _, _, .int i => .int i
  | _, _, .str x => .str x
  | _, _, .lst h a => .lst (lstSame s h) (dpa_sm s a)
  | _, _, .tup h a => .tup (tupFix (Fix.of s) h) (dpa_sm s a)
theorem dpa_sm {K : PySem.W.Frag} {H H' : Hp} (s : Same H H') : ∀ {ds : List PyData} {xs : List V}, DpAll K H xs ds → DpAll K H' xs ds
  | _, _, .nil => .nil
  | _, _, .cons h t => .cons (dp_sm s h) (dpa_sm s t)
end
/-- sorted(xs, key=f) -/
def rSortK (P : Program) (w : World) (K : PySem.W.Frag) (mg : Str → Option Value) (base : Heap) (lv : Nat) (spf : Sp) : List V → List V → Hp → VK → Prop := fun vs zs H Q => ∃ (a f : Addr) (bs : List (V × PyData)), vs = [V.ref a] ∧ zs = [V.ref f] ∧ SqL K H a (bs.map (·.1)) ∧ CallV P w K mg base lv spf H f ∧
  AllAlike (bs.map (·.2)) ∧ (Sortable (bs.map (·.2)) ∨ Tup0 (bs.map (·.2))) ∧ (∀ b ∈ bs, b.2.depth ≤ 20) ∧ (∀ b ∈ bs, ∀ H', Same H H' → spf [b.1] H' (fun k H'' => Same H' H'' ∧ Dp K H'' k b.2) fun _ _ _ => False) ∧
  ∀ p H', Same H H' → H' p = some (.lst ((bs.mergeSort (dataLe false (·.2))).map (·.1))) → Q (.ref p) H'
section
variable {P : Program} {w : World}
theorem un_out {fs : List Addr} {H H' : Hp} {h g g' : Heap} {kS : Addr} (u : Un fs [] H H' h g) (hk : h.objs.size ≤ kS) (k : ∀ b o, b ≠ kS → g.get? b = some o → g'.get? b = some o) : Un fs [] H H' h g' :=
  have ne : ∀ {b : Addr} {o : Obj}, h.get? b = some o → b ≠ kS := fun q => Nat.ne_of_lt (Nat.lt_of_lt_of_le (Heap.lt_size q) hk)
  ⟨fun b o q n m x => k b o (ne q) (u.keep b o q n m x), fun b o q n m x => let ⟨sl, e⟩ := u.slot b o q n m x; ⟨sl, k b _ (ne q) e⟩, u.free, fun b o q x => let ⟨o', e⟩ := u.there b o q x; ⟨o', k b o' (ne q) e⟩, u.tups, u.frzs, u.tbls⟩
theorem hok_out {H : Hp} {g g' : Heap} {kS : Addr} (ok : HOk P w H g) (n : H kS = none) (k : ∀ b o, b ≠ kS → g.get? b = some o → g'.get? b = some o) : HOk P w H g' := fun b u e =>
  (ok b u e).stay (fun d v hd q => k d v (fun z => by
    rcases hd with y | y
    · rw [← y, z, n] at e; cases e
    · rw [z, n] at y; cases y) q) (fun _ e => e) (fun _ _ e => e)
end
section
variable {X : Cx}
theorem all2_snoc {α β : Type} {R : α → β → Prop} {x : α} {y : β} (h : R x y) : ∀ {xs : List α} {ys : List β}, All2 R xs ys → All2 R (xs ++ [x]) (ys ++ [y])
  | _, _, .nil => .cons h .nil
  | _, _, .cons a t => .cons a (all2_snoc h t)
theorem vals_snoc {x : V} {u : Value} (h : RelV x u) : ∀ {xs : List V} {us : List Value}, Vals xs us → Vals (xs ++ [x]) (us ++ [u])
  | _, _, .nil => .cons h .nil
  | _, _, .cons a t => .cons a (vals_snoc h t)
theorem each_reads {pins : List (Addr × Obj)} {σ : L2.St} {H : Hp} {s : Shared} (I : Inv X pins σ H s) : ∀ {ks : List V} {us : List Value} {bs : List (V × PyData)}, Vals ks us → All2 (fun k b => Dp X.K H k b.2) ks bs → EachIs (fun v d => ∃ as, Reads s.heap v d as) us (bs.map (·.2))
  | _, _, _, .nil, .nil => .nil
  | _, _, _, .cons r t, .cons d u => .cons (Dp.reads I _ _ _ d r) (each_reads I t u)
theorem each_map2 {R : Value → V × PyData → Prop} : ∀ {us : List Value} {bs : List (V × PyData)}, EachIs R us bs → EachIs (fun v b => R v b) us bs := fun h => h
theorem cr_sortK {lv : Nat} {spf : Sp} (hr : Room (lv + 2) X.A) (hu : X.A.units + 64 < cLine) : CallRK X (.builtin "sorted") [Str.ofString "key"] (rSortK X.prog X.w X.K X.mg X.base lv spf) := by
  intro pins s σ H vs zs us ws Q I r rz h
  obtain ⟨a, f, bs, rfl, rfl, hs, V0, hal, hk, hd, turn, q⟩ := h
  obtain ⟨its, rv, hL, hz⟩ := I.list hs
  obtain ⟨u, rfl, ru⟩ := vals1 r
  obtain rfl : u = Value.ref a := ru
  obtain ⟨w1, rfl, e1⟩ := vals1 rz
  obtain rfl : w1 = Value.ref f := e1
  have li : its.length = bs.length := by rw [← rv.length, List.length_map]
  have hZ : its.length ≤ sizeLine := by rw [← rv.length]; exact hz
  show wpAny _ _ (call (.builtin "sorted") [.ref a] [(Str.ofString "key", .ref f)]) _ _ _
  refine sorted_of_sort hL.isList hZ (ksk_s1 _ _) (fun _ => ksk_l1 _ _) fun E' => ?_
  rw [ksk_t1]
  -- the work's own objects
  obtain ⟨n, hn⟩ : ∃ n, s.heap.objs.size = n := ⟨_, rfl⟩
  have ho := copyHeap_at s.heap its
  rw [hn] at ho ⊢
  have ha : n + 1 < (copyHeap s.heap its).objs.size := Heap.lt_size ho
  obtain ⟨e1, ho1⟩ : ∃ e1, ((copyHeap s.heap its).update (n + 1) (Obj.mapSeq fun _ => (#[] : Array Value))).get? (n + 1) = some (seqObj "list" #[] e1) := ⟨_, get?_update_seq ho fun _ => #[]⟩
  obtain ⟨kS, hkS⟩ : ∃ kS, (((copyHeap s.heap its).update (n + 1) (Obj.mapSeq fun _ => (#[] : Array Value))).push (seqObj "tuple" its.toArray 0)).objs.size = kS := ⟨_, rfl⟩
  have kSn : n + 1 < kS := by rw [← hkS, size_push', Heap.size_update]; omega
  have fr : ∀ b, n ≤ b → b ∉ frs X.stack := fun b hb m => by
    obtain ⟨_, o, e, _⟩ := I.stack.mem m
    have h1 : (b : Nat) < s.heap.objs.size := Heap.lt_size e
    have h2 : (n : Nat) ≤ b := hb
    omega
  have fN : ∀ b, n ≤ b → H b = none := fun b hb => I.hok.fresh (by rw [hn]; exact hb)
  unfold ksk_tree
  refine wpAny_bind (listItems_at ho rfl ?_)
  refine wpAny_bind (listUpdate_at ho rfl ?_ (by rw [List.size_toArray]; exact hZ) (Nat.zero_le _))
  refine wpAny_bind (seqEpoch_at ho1 rfl ?_)
  refine wpAny_bind (wpAny_newTuple ?_ (by show its.length ≤ _; exact hZ))
  refine wpAny_bind (wpAny_newList ?_ (Nat.zero_le _))
  refine wpAny_holding ?_
  rw [hkS]
  have old : ∀ b o, s.heap.get? b = some o → ((((copyHeap s.heap its).update (n + 1) (Obj.mapSeq fun _ => (#[] : Array Value))).push (seqObj "tuple" its.toArray 0)).push (seqObj "list" #[] 0)).get? b = some o := fun b o e => by
    have := sorting_copy_old (vs := its) e
    rw [hn] at this
    exact this
  have g0 : ((((copyHeap s.heap its).update (n + 1) (Obj.mapSeq fun _ => (#[] : Array Value))).push (seqObj "tuple" its.toArray 0)).push (seqObj "list" #[] 0)).get? kS = some (seqObj "list" #[] 0) := by rw [← hkS]; exact Heap.get?_push_size _ rfl
  have g1 : ((((copyHeap s.heap its).update (n + 1) (Obj.mapSeq fun _ => (#[] : Array Value))).push (seqObj "tuple" its.toArray 0)).push (seqObj "list" #[] 0)).get? (n + 1) = some (seqObj "list" #[] e1) := Heap.get?_push_of_some _ (Heap.get?_push_of_some _ ho1)
  generalize ((((copyHeap s.heap its).update (n + 1) (Obj.mapSeq fun _ => (#[] : Array Value))).push (seqObj "tuple" its.toArray 0)).push (seqObj "list" #[] 0)) = hp at old g0 g1 ⊢
  clear ho ho1 ha hkS
  unfold ksk_rest
  refine wpAny_bind (wpAny_rule ?_)
  first
    | rw [List.forIn_toArray]
    | (rw [← Array.forIn_toList]; simp only [List.toList_toArray])
    | rw [← Array.forIn_toList]
  refine wpAny_bind (ksk_fold (fun i s' => ∃ (H' : Hp) (kA : Array Value) (e : Nat) (kv : List V), s'.os = s.os ∧ AllBare s'.gens ∧ Un (frs X.stack) [] H H' s.heap s'.heap ∧ HOk X.prog X.w H' s'.heap ∧ Same H H' ∧ H' (n + 1) = none ∧ H' kS = none ∧
      s'.heap.get? (n + 1) = some (seqObj "list" #[] e1) ∧ s'.heap.get? kS = some (seqObj "list" kA e) ∧ Vals kv kA.toList ∧ All2 (fun k b => Dp X.K H' k b.2) kv (bs.take i)) its 0 _
    ⟨H, #[], 0, [], rfl, I.bare, Un.kept old, I.hok.kept old, Same.refl _, fN _ (by omega), fN _ (by omega), g1, g0, .nil, by rw [List.take_zero]; exact .nil⟩ ?step ?done)
  case step =>
    rintro j x s' hx ⟨H', kA, e, kv, os, bare, un, hok, sm, na, nk, ga, gk, rk, al⟩
    simp only [Nat.zero_add] at al ⊢
    have hj : j < its.length := (List.getElem?_eq_some_iff.mp hx).1
    obtain ⟨b, hb⟩ : ∃ b, bs[j]? = some b := ⟨_, List.getElem?_eq_getElem (by omega)⟩
    have J := I.call' os un hok bare (fun b z => absurd z (by simp))
    obtain ⟨fs, k1, k2, k3⟩ := V0.same sm
    obtain ⟨u, hu', ru⟩ := rv.get (i := j) (x := b.1) (by rw [List.getElem?_map, hb]; rfl)
    rw [hx] at hu'
    obtain rfl : x = u := Option.some.inj hu'
    have sz : kA.size ≤ its.length := by
      have h1 : kv.length = kA.toList.length := rk.length
      have h2 : kv.length = (bs.take j).length := al.len
      have h3 : kA.toList.length = kA.size := Array.length_toList
      rw [List.length_take] at h2
      omega
    have kne : kS ≠ n + 1 := by omega
    refine wpAny_bind (wpAny_attempt ?_)
    refine wpAny_call (codeAny_mono (k3 _ X.stack s' H' [x] [b.1] _ _ ((show Room (lv + 1 + 1) X.A from hr).in1.in1) J.env0.in1.in1 (fun p m => (k1 p m).1) (.cons ru .nil) (turn b (List.mem_of_getElem? hb) H' sm)) fun r s2 hq => ?_)
    cases r with
    | error er =>
      obtain ⟨_, _, _, _, _, _, _, _, _, _, _, _, z⟩ := hq
      exact z.elim
    | ok fl =>
      cases fl with
      | next => exact False.elim hq
      | brk => exact False.elim hq
      | cont => exact False.elim hq
      | ret v =>
        obtain ⟨k, H2, os2, bare2, un2, hok2, rv2, sm2, dk⟩ := hq
        have gk2 := un2.keep _ _ gk nk (fr _ (by omega)) (by simp)
        have ga2 := un2.keep _ _ ga na (fr _ (by omega)) (by simp)
        have nk2 := un2.free _ _ gk nk (by simp)
        have na2 := un2.free _ _ ga na (by simp)
        have s1 := Heap.SameBut.update s2.heap kS (Obj.mapSeq (·.push v))
        obtain ⟨c2, hc2⟩ : ∃ c2, (s2.heap.update kS (Obj.mapSeq (·.push v))).get? kS = some (seqObj "list" (kA.push v) c2) := ⟨_, get?_update_seq gk2 (·.push v)⟩
        have kp : ∀ b o, b ≠ kS → s2.heap.get? b = some o → (s2.heap.update kS (Obj.mapSeq (·.push v))).get? b = some o := fun b o h e => (s1.2 b h).trans e
        try dsimp only
        refine wpAny_bind (listUpdate_at gk2 rfl ?_ (Nat.le_trans sz hZ) (Nat.le_trans (Nat.le_of_eq (Array.size_push ..)) (Nat.succ_le_succ (Nat.le_trans sz hZ))))
        refine wpAny_pure ⟨rfl, H2, kA.push v, c2, kv ++ [k], os2.trans os, bare2, un_out (un.trans un2) (by rw [hn]; omega) kp, hok_out hok2 nk2 kp, sm.trans sm2, na2, nk2, (s1.2 _ kne.symm).trans ga2, hc2, ?_, ?_⟩
        · rw [Array.toList_push]; exact vals_snoc rv2 rk
        · rw [List.take_add_one, hb]
          exact all2_snoc (R := fun k (b : V × PyData) => Dp X.K H2 k b.2) dk (al.imp fun _ _ d => dp_sm sm2 d)
  case done =>
    rintro s' ⟨H', kA, e, kv, os, bare, un, hok, sm, na, nk, ga, gk, rk, al⟩
    rw [Nat.zero_add, li, List.take_length] at al
    have J := I.call' os un hok bare (fun b z => absurd z (by simp))
    have er := each_reads J rk al
    have hsz : kA.size = its.length := by
      have h1 : kv.length = kA.toList.length := rk.length
      have h2 : kv.length = bs.length := al.len
      have h3 : kA.toList.length = kA.size := Array.length_toList
      omega
    have kne : kS ≠ n + 1 := by omega
    have bd : ∀ d, d ∈ bs.map (·.2) → X.A.in1.in1.units + d.depth < cLine := fun d m => by
      obtain ⟨b, mb, rfl⟩ := List.mem_map.mp m
      have h1 : (b.2.depth : Nat) ≤ 20 := hd b mb
      have h2 : (X.A.units : Nat) + 64 < cLine := hu
      show (X.A.units + 1 + 1 + b.2.depth : Nat) < cLine
      omega
    have S : SortsAt X.prog X.w X.A.in1.in1 s' (dataKind s'.heap (bs.map (·.2))) kA.toList := by
      rcases hk with hk | hk
      · exact SortsAt.data er hal hk bd
      · exact SortsAt.tup0 er hal hk bd
    try dsimp only
    refine wpAny_bind (listItems_at gk rfl ?_)
    refine key_endN (κ := dataKind s'.heap (bs.map (·.2))) gk ga kne S hsz hZ fun h3 tk3 c g3 k3 t3 => ⟨rfl, ?_⟩
    -- the end
    have eo : EachIs (fun u b => RelV b.1 u) (sortVals (dataKind s'.heap (bs.map (·.2))) false kA.toList its) (bs.mergeSort (dataLe false fun b : V × PyData => b.2)) :=
      keyedOut_each (R := fun u (b : V × PyData) => RelV b.1 u) (·.2) ⟨s'.heap, kA.toList, hal, rfl, er⟩ (vals_each rv)
    have hv := each_vals eo
    have un3 : Un (frs X.stack) [] H H' s.heap h3 := by
      have ne : ∀ {b : Addr} {o : Obj}, s.heap.get? b = some o → b ≠ n + 1 ∧ b ≠ kS := fun {b o} q => by
        have h1 := Heap.lt_size q
        rw [hn] at h1
        exact ⟨fun z => by rw [z] at h1; exact absurd h1 (Nat.not_lt.mpr (Nat.le_succ n)), fun z => by rw [z] at h1; exact absurd h1 (Nat.not_lt.mpr (show n ≤ kS by omega))⟩
      exact ⟨fun b o q n m x => k3 b o (ne q).1 (ne q).2 (un.keep b o q n m x), fun b o q n m x => let ⟨sl, e⟩ := un.slot b o q n m x; ⟨sl, k3 b _ (ne q).1 (ne q).2 e⟩, un.free, fun b o q x => let ⟨o', e⟩ := un.there b o q x; ⟨o', k3 b o' (ne q).1 (ne q).2 e⟩, un.tups, un.frzs, un.tbls⟩
    have hok3 : HOk X.prog X.w H' h3 := fun b u e => by
      have n1 : ∀ d, (d = b ∨ H' d = some (.own b)) → d ≠ n + 1 := fun d hd z => by
        rcases hd with y | y
        · rw [← y, z, na] at e; cases e
        · rw [z, na] at y; cases y
      have n2 : ∀ d, (d = b ∨ H' d = some (.own b)) → d ≠ kS := fun d hd z => by
        rcases hd with y | y
        · rw [← y, z, nk] at e; cases e
        · rw [z, nk] at y; cases y
      exact (hok b u e).stay (fun d v hd q => k3 d v (n1 d hd) (n2 d hd) q) (fun _ e => e) (fun _ _ e => e)
    have nb : ∀ {b : Addr} {u : HO}, H' b = some u → b ≠ n + 1 := fun e z => by rw [z, na] at e; cases e
    have un4 : Un (frs X.stack) [] H (upd H' (n + 1) (.lst ((bs.mergeSort (dataLe false (fun b : V × PyData => b.2))).map (·.1)))) s.heap h3 := by
      refine ⟨un3.keep, un3.slot, fun b o q m x => ?_, un3.there, fun b xs q => ?_, fun b o xs q => ?_, fun b ps q => ?_⟩
      · have h1 := Heap.lt_size q
        rw [hn] at h1
        rw [upd_ne fun z => by rw [z] at h1; exact absurd h1 (Nat.not_lt.mpr (Nat.le_succ n))]
        exact un3.free b o q m x
      · rw [upd_ne (nb (un3.tups b xs q))]; exact un3.tups b xs q
      · rw [upd_ne (nb (un3.frzs b o xs q))]; exact un3.frzs b o xs q
      · obtain ⟨m, e⟩ := un3.tbls b ps q
        exact ⟨m, by rw [upd_ne (nb e)]; exact e⟩
    have hok4 : HOk X.prog X.w (upd H' (n + 1) (.lst ((bs.mergeSort (dataLe false fun b : V × PyData => b.2)).map (·.1)))) h3 := fun b u e => by
      by_cases hb : b = n + 1
      · subst hb
        rw [upd_same] at e
        cases e
        refine ⟨?_, _, c, hv, g3⟩
        rw [List.length_map, List.length_mergeSort, ← li]; exact hZ
      · rw [upd_ne hb] at e
        exact (hok3 b u e).stay (fun _ _ _ q => q) (fun d q => by rw [upd_ne (nb q)]; exact q) fun d xs q => by rw [upd_ne (nb q)]; exact q
    refine I.after ⟨.ref (n + 1), _, os, bare, un4, hok4, rfl, q (n + 1) _ (fun b o e => ?_) upd_same⟩
    rw [upd_ne (nb (sm _ _ e))]
    exact sm _ _ e
end
end Sk

/-! [elt for .. in .. for .. in .. for .. in ..] -/
namespace L2
open PySem PySem.Spec PyProof.Rows
abbrev LC3 (elt t0 i0 t1 i1 t2 i2 : Expr) (ifs0 ifs1 ifs2 : List Expr) (scope : Scope) (pos : Pos) : Expr := .ListComp elt [⟨t0, i0, ifs0, 0⟩, ⟨t1, i1, ifs1, 0⟩, ⟨t2, i2, ifs2, 0⟩] scope pos
section
variable (elt t0 i0 t1 i1 t2 i2 : Expr) (ifs0 ifs1 ifs2 : List Expr) (scope : Scope) (pos : Pos) (it acc : Value) (env : Env)
theorem compTurn3_0 :
    compTurn (LC3 elt t0 i0 t1 i1 t2 i2 ifs0 ifs1 ifs2 scope pos) 0 it acc env = (do
      standAt i0.pos
      match ← pyNext it with
      | none => pure (.done .next)
      | some v =>
        letOwnedTupleGo t0 it v
        assign t0 env v
        let mut ok := true
        for c in ifs0 do
          if ok then ok ← isTrue c env (eval c env)
        if ok then
          let x ← eval i1 env
          standAt i1.pos
          let x ← foldedSetIterable i1 env x
          let _ ← runOwn (.compStart (LC3 elt t0 i0 t1 i1 t2 i2 ifs0 ifs1 ifs2 scope pos) 1 (← holding [x] (pyIter x)) acc env) env
        again (.compLoop (LC3 elt t0 i0 t1 i1 t2 i2 ifs0 ifs1 ifs2 scope pos) 0 it acc env)) := by rfl
theorem compTurn3_1 :
    compTurn (LC3 elt t0 i0 t1 i1 t2 i2 ifs0 ifs1 ifs2 scope pos) 1 it acc env = (do
      standAt i1.pos
      match ← pyNext it with
      | none => pure (.done .next)
      | some v =>
        letOwnedTupleGo t1 it v
        assign t1 env v
        let mut ok := true
        for c in ifs1 do
          if ok then ok ← isTrue c env (eval c env)
        if ok then
          let x ← eval i2 env
          standAt i2.pos
          let x ← foldedSetIterable i2 env x
          let _ ← runOwn (.compStart (LC3 elt t0 i0 t1 i1 t2 i2 ifs0 ifs1 ifs2 scope pos) 2 (← holding [x] (pyIter x)) acc env) env
        again (.compLoop (LC3 elt t0 i0 t1 i1 t2 i2 ifs0 ifs1 ifs2 scope pos) 1 it acc env)) := by rfl
theorem compTurn3_2 :
    compTurn (LC3 elt t0 i0 t1 i1 t2 i2 ifs0 ifs1 ifs2 scope pos) 2 it acc env = (do
      standAt i2.pos
      match ← pyNext it with
      | none => pure (.done .next)
      | some v =>
        letOwnedTupleGo t2 it v
        assign t2 env v
        let mut ok := true
        for c in ifs2 do
          if ok then ok ← isTrue c env (eval c env)
        if ok then
          (do let _ ← call (.builtin "list.append") [acc, ← eval elt env])
        again (.compLoop (LC3 elt t0 i0 t1 i1 t2 i2 ifs0 ifs1 ifs2 scope pos) 2 it acc env)) := by rfl
end
section
variable {prog : Program} {w : World} {A : Around} {R : Result → Shared → Prop} {s : Shared} {elt t0 i0 t1 i1 t2 i2 : Expr} {ifs0 ifs1 ifs2 : List Expr} {scope : Scope} {pos : Pos} {it acc : Value} {env : Env}
/-- a loop that starts the next clause -/
theorem compLoop3_g {lv : Nat} {t i : Expr} {ifs : List Expr} {pi : Pos} (t1' i1' : Expr)
    (eq : ∀ it acc env, compTurn (LC3 elt t0 i0 t1 i1 t2 i2 ifs0 ifs1 ifs2 scope pos) lv it acc env = (do
      standAt pi
      match ← pyNext it with
      | none => pure (.done .next)
      | some v =>
        letOwnedTupleGo t it v
        assign t env v
        let mut ok := true
        for c in ifs do
          if ok then ok ← isTrue c env (eval c env)
        if ok then
          let x ← eval i env
          standAt i.pos
          let x ← foldedSetIterable i env x
          let _ ← runOwn (.compStart (LC3 elt t0 i0 t1 i1 t2 i2 ifs0 ifs1 ifs2 scope pos) (lv + 1) (← holding [x] (pyIter x)) acc env) env
        again (.compLoop (LC3 elt t0 i0 t1 i1 t2 i2 ifs0 ifs1 ifs2 scope pos) lv it acc env)))
    (hs : ∀ x, foldedSetIterable i env x = pure x) (I : Nat → Shared → Prop)
    (turn : ∀ n s, I n s → wpAny (model prog w) A (pyNext it) (fun r s₁ => match r with
      | none => R (.ok .next) s₁
      | some v => wpAny (model prog w) A (letOwnedTupleGo t it v) (fun _ s₁' => wpAny (model prog w) A (assign t env v) (fun _ s₂ =>
          wpAny (model prog w) A (forIn ifs true fun c r => if r = true then do let ok ← isTrue c env (eval c env); pure (ForInStep.yield ok) else pure (ForInStep.yield r)) (fun ok s₃ =>
            if ok = true then wpAny (model prog w) A (eval i env) (fun x s₄ => wpAny (model prog w) A (pyIter x) (fun it1 s₅ =>
              codeAny (model prog w) A (.compStart (LC3 elt t0 i0 t1 i1 t2 i2 ifs0 ifs1 ifs2 scope pos) (lv + 1) it1 acc env) (fun r s' => match r with
                | .ok _ => ∃ m, m < n ∧ I m s'
                | .error _ => False) s₅) (notedBy (model prog w) A env fun e s' => R (.error e) s') s₄) (notedBy (model prog w) A env fun e s' => R (.error e) s') s₃
            else ∃ m, m < n ∧ I m s₃) (notedBy (model prog w) A env fun e s' => R (.error e) s') s₂) (notedBy (model prog w) A env fun e s' => R (.error e) s') s₁') (notedBy (model prog w) A env fun e s' => R (.error e) s') s₁) (notedBy (model prog w) A env fun e s' => R (.error e) s') s)
    (n : Nat) (h : I n s) :
    codeAny (model prog w) A (.compLoop (LC3 elt t0 i0 t1 i1 t2 i2 ifs0 ifs1 ifs2 scope pos) lv it acc env) R s := by
  refine codeAny_loop rfl I (fun n s hI => ?_) n h
  show wpAny _ A ((compTurn (LC3 elt t0 i0 t1 i1 t2 i2 ifs0 ifs1 ifs2 scope pos) lv it acc env).onRaise (fun x => do noteFrame x env; theTreesLotGoes x)) _ _ s
  refine wpAny_noted ?_
  rw [eq]
  refine wpAny_bind (wpAny_standAt (wpAny_bind (wpAny_mono (turn n s hI) (fun r s₁ h₁ => ?_) fun _ _ h' => h')))
  cases r with
  | none => exact wpAny_pure h₁
  | some v =>
    refine wpAny_bind (wpAny_mono h₁ (fun _ s₁' h₁' => ?_) fun _ _ h' => h')
    refine wpAny_bind (wpAny_mono h₁' (fun _ s₂ h₂ => wpAny_bind (wpAny_mono h₂ (fun ok s₃ h₃ => ?_) fun _ _ h' => h')) fun _ _ h' => h')
    cases ok with
    | false => exact wpAny_pure ⟨rfl, h₃⟩
    | true =>
      refine wpAny_bind (wpAny_mono h₃ (fun x s₄ h₄ => ?_) fun _ _ h' => h')
      refine wpAny_bind (wpAny_standAt (wpAny_bind (wpAny_of_eq (hs x) (wpAny_bind (wpAny_holding (wpAny_mono h₄ (fun it1 s₅ h₅ => ?_) fun _ _ h' => h'))))))
      refine wpAny_bind (wpAny_runOwn ?_)
      rw [Around.mark_none]
      refine codeAny_mono h₅ fun r s' hr => ?_
      cases r with
      | ok f =>
        first
          | exact wpAny_pure ⟨rfl, hr⟩
          | exact wpAny_bind (wpAny_pure (wpAny_pure ⟨rfl, hr⟩))
      | error e => exact hr.elim
theorem compLoop3_in (I : Nat → Shared → Prop)
    (turn : ∀ n s, I n s → wpAny (model prog w) A (pyNext it) (fun r s₁ => match r with
      | none => R (.ok .next) s₁
      | some v => wpAny (model prog w) A (letOwnedTupleGo t2 it v) (fun _ s₁' => wpAny (model prog w) A (assign t2 env v) (fun _ s₂ =>
          wpAny (model prog w) A (forIn ifs2 true fun c r => if r = true then do let ok ← isTrue c env (eval c env); pure (ForInStep.yield ok) else pure (ForInStep.yield r)) (fun ok s₃ =>
            if ok = true then wpAny (model prog w) A (eval elt env) (fun x s₄ =>
              wpAny (model prog w) A (call (.builtin "list.append") [acc, x]) (fun _ s₅ => ∃ m, m < n ∧ I m s₅) (notedBy (model prog w) A env fun e s' => R (.error e) s') s₄) (notedBy (model prog w) A env fun e s' => R (.error e) s') s₃
            else ∃ m, m < n ∧ I m s₃) (notedBy (model prog w) A env fun e s' => R (.error e) s') s₂) (notedBy (model prog w) A env fun e s' => R (.error e) s') s₁') (notedBy (model prog w) A env fun e s' => R (.error e) s') s₁) (notedBy (model prog w) A env fun e s' => R (.error e) s') s)
    (n : Nat) (h : I n s) :
    codeAny (model prog w) A (.compLoop (LC3 elt t0 i0 t1 i1 t2 i2 ifs0 ifs1 ifs2 scope pos) 2 it acc env) R s := by
  refine codeAny_loop rfl I (fun n s hI => ?_) n h
  show wpAny _ A ((compTurn (LC3 elt t0 i0 t1 i1 t2 i2 ifs0 ifs1 ifs2 scope pos) 2 it acc env).onRaise (fun x => do noteFrame x env; theTreesLotGoes x)) _ _ s
  refine wpAny_noted ?_
  rw [compTurn3_2]
  refine wpAny_bind (wpAny_standAt (wpAny_bind (wpAny_mono (turn n s hI) (fun r s₁ h₁ => ?_) fun _ _ h' => h')))
  cases r with
  | none => exact wpAny_pure h₁
  | some v =>
    refine wpAny_bind (wpAny_mono h₁ (fun _ s₁' h₁' => ?_) fun _ _ h' => h')
    refine wpAny_bind (wpAny_mono h₁' (fun _ s₂ h₂ => wpAny_bind (wpAny_mono h₂ (fun ok s₃ h₃ => ?_) fun _ _ h' => h')) fun _ _ h' => h')
    cases ok with
    | false => exact wpAny_pure ⟨rfl, h₃⟩
    | true =>
      exact wpAny_bind (wpAny_bind (wpAny_mono h₃ (fun x s₄ h₄ => wpAny_bind (wpAny_mono h₄ (fun _ s₅ h₅ => wpAny_pure (wpAny_pure ⟨rfl, h₅⟩)) fun _ _ h' => h')) fun _ _ h' => h'))
theorem compStart3_ok (lv : Nat) (h0 : codeAny (model prog w) A (.compLoop (LC3 elt t0 i0 t1 i1 t2 i2 ifs0 ifs1 ifs2 scope pos) (lv + 1) it acc env) R s)
    (h : wpAny (model prog w) A (pyIter it) (fun it' s' => codeAny (model prog w) A (.compLoop (LC3 elt t0 i0 t1 i1 t2 i2 ifs0 ifs1 ifs2 scope pos) (lv + 1) it' acc env) R s')
      (notedBy (model prog w) A env fun x s' => R (.error x) s') s) (hl : lv = 0 ∨ lv = 1) :
    codeAny (model prog w) A (.compStart (LC3 elt t0 i0 t1 i1 t2 i2 ifs0 ifs1 ifs2 scope pos) (lv + 1) it acc env) R s := by
  refine codeAny_of_tree ?_
  show wpAny _ _ ((compStart (LC3 elt t0 i0 t1 i1 t2 i2 ifs0 ifs1 ifs2 scope pos) (lv + 1) it acc env).onRaise (fun x => do noteFrame x env; standAt theWindowsPlace)) _ _ s
  refine wpAny_notedAt ?_
  unfold compStart
  rcases hl with rfl | rfl
  · show wpAny _ _ (ask >>= _) _ _ s
    refine wpAny_bind (wpAny_askSetting (wpAny_ite ?_))
    split
    · first
        | exact wpAny_bind (wpAny_pure (wpAny_pure (And.intro rfl h0)))
        | exact wpAny_pure (And.intro rfl h0)
    · first
        | exact wpAny_bind (wpAny_rule (wpAny_bind (wpAny_standAt (wpAny_bind (wpAny_mono h (fun it' s' h' => wpAny_pure (And.intro rfl h')) fun _ _ x => x)))))
        | (refine wpAny_bind (wpAny_rule ?_); show wpAny _ _ (standAt i1.pos >>= _) _ _ s; exact wpAny_bind (wpAny_standAt (wpAny_bind (wpAny_mono h (fun it' s' h' => wpAny_pure (And.intro rfl h')) fun _ _ x => x))))
  · show wpAny _ _ (ask >>= _) _ _ s
    refine wpAny_bind (wpAny_askSetting (wpAny_ite ?_))
    split
    · first
        | exact wpAny_bind (wpAny_pure (wpAny_pure (And.intro rfl h0)))
        | exact wpAny_pure (And.intro rfl h0)
    · first
        | exact wpAny_bind (wpAny_rule (wpAny_bind (wpAny_standAt (wpAny_bind (wpAny_mono h (fun it' s' h' => wpAny_pure (And.intro rfl h')) fun _ _ x => x)))))
        | (refine wpAny_bind (wpAny_rule ?_); show wpAny _ _ (standAt i2.pos >>= _) _ _ s; exact wpAny_bind (wpAny_standAt (wpAny_bind (wpAny_mono h (fun it' s' h' => wpAny_pure (And.intro rfl h')) fun _ _ x => x))))
end
theorem wipe_out3 : True := trivial
section
variable {X : Cx}
def tLc3 (wi : TI) (g : TG) (tt : TT) (wi1 : TI) (g1 : TG) (tt1 : TT) (wi2 : TI) (g2 : TG) (tt2 : TT) (te : TE) (vs vs1 vs2 : List Nat) : TE := fun σ H Q => wi σ H fun J H1 => ∀ D, H1 D = none → ∃ W : Nat → Nat → Hp → Prop, (∃ m, W 0 m (upd H1 D (.lst []))) ∧ ∀ i m H, W i m H →
  (J.stop i H ∧ Q (.ref D) H) ∨ (J.go i H ∧ ∃ Nx : Hp → Prop, (∀ H', Nx H' → ∃ m', m' < m ∧ W (i + 1) m' H') ∧ ∀ x H', J.yld i H x H' → g x (wipe σ vs) H' fun σ2 H2 => wipe σ2 vs = wipe σ vs ∧ tt σ2 H2 fun b H3 =>
    if b = true then wi1 σ2 H3 fun J1 H4 => ∃ W1 : Nat → Nat → Hp → Prop, (∃ m, W1 0 m H4) ∧ ∀ j k H, W1 j k H →
      (J1.stop j H ∧ Nx H) ∨ (J1.go j H ∧ ∃ Nx1 : Hp → Prop, (∀ H', Nx1 H' → ∃ k', k' < k ∧ W1 (j + 1) k' H') ∧ ∀ x H', J1.yld j H x H' → g1 x (wipe σ2 vs1) H' fun σ3 H5 => wipe σ3 vs1 = wipe σ2 vs1 ∧ tt1 σ3 H5 fun b H6 =>
        if b = true then wi2 σ3 H6 fun J2 H7 => ∃ W2 : Nat → Nat → Hp → Prop, (∃ m, W2 0 m H7) ∧ ∀ l p H, W2 l p H →
          (J2.stop l H ∧ Nx1 H) ∨ (J2.go l H ∧ ∃ Nx2 : Hp → Prop, (∀ H', Nx2 H' → ∃ p', p' < p ∧ W2 (l + 1) p' H') ∧ ∀ x H', J2.yld l H x H' → g2 x (wipe σ3 vs2) H' fun σ4 H8 => wipe σ4 vs2 = wipe σ3 vs2 ∧ tt2 σ4 H8 fun b H9 =>
            if b = true then te σ4 H9 fun y H10 => ∃ acc, H10 D = some (.lst acc) ∧ acc.length < sizeLine ∧ Nx2 (upd H10 D (.lst (acc ++ [y]))) else Nx2 H9)
        else Nx1 H6)
    else Nx H3)
theorem lc3_core {pins : List (Addr × Obj)} {s : Shared} {σ : St} {H : Hp} {Q : VK} {elt tg iter tg1 iter1 tg2 iter2 : Expr} {ifs ifs1 ifs2 : List Expr} {scope : Scope} {own : List (Str × Nat)} {vs1 vs2 : List Nat} {pos pos' : Pos} {wi wi1 wi2 : TI} {g g1 g2 : TG} {tt tt1 tt2 : TT} {te : TE} {use : Option (Value → Sem Unit)} {Qf : Value → Shared → Prop}
    (hc : X.calm = true) (hN : X.N.Nodup) (I : Inv X pins σ H s) (hi : PI X tg iter wi) (ok : BlkOk X.N X.env.scope scope own) (hv : ∀ i ∈ vs1, i ∈ own.map (·.2)) (hv2 : ∀ i ∈ vs2, i ∈ vs1)
    (hg : ∀ (s : Shared) (H : Hp) (C : Addr) (cl : List (Str × Addr)) (fp : List Addr), PG (X.blk s H scope (compEnvC scope cl C X.env) fp) tg g) (ht : ∀ (s : Shared) (H : Hp) (C : Addr) (cl : List (Str × Addr)) (fp : List Addr), PTs (X.blk s H scope (compEnvC scope cl C X.env) fp) ifs tt)
    (he : ∀ (s : Shared) (H : Hp) (C : Addr) (cl : List (Str × Addr)) (fp : List Addr), PE (X.blk s H scope (compEnvC scope cl C X.env) fp) elt te) (hs : ∀ x, foldedSetIterable iter X.env x = pure x)
    (hi1 : ∀ (s : Shared) (H : Hp) (C : Addr) (cl : List (Str × Addr)) (fp : List Addr), PI (X.blk s H scope (compEnvC scope cl C X.env) fp) tg1 iter1 wi1)
    (hg1 : ∀ (s : Shared) (H : Hp) (C : Addr) (cl : List (Str × Addr)) (fp : List Addr), PG (X.blk s H scope (compEnvC scope cl C X.env) fp) tg1 g1)
    (ht1 : ∀ (s : Shared) (H : Hp) (C : Addr) (cl : List (Str × Addr)) (fp : List Addr), PTs (X.blk s H scope (compEnvC scope cl C X.env) fp) ifs1 tt1)
    (hi2 : ∀ (s : Shared) (H : Hp) (C : Addr) (cl : List (Str × Addr)) (fp : List Addr), PI (X.blk s H scope (compEnvC scope cl C X.env) fp) tg2 iter2 wi2)
    (hg2 : ∀ (s : Shared) (H : Hp) (C : Addr) (cl : List (Str × Addr)) (fp : List Addr), PG (X.blk s H scope (compEnvC scope cl C X.env) fp) tg2 g2)
    (ht2 : ∀ (s : Shared) (H : Hp) (C : Addr) (cl : List (Str × Addr)) (fp : List Addr), PTs (X.blk s H scope (compEnvC scope cl C X.env) fp) ifs2 tt2)
    (hs1 : ∀ env x, foldedSetIterable iter1 env x = pure x) (hs2 : ∀ env x, foldedSetIterable iter2 env x = pure x)
    (h : tLc3 wi g tt wi1 g1 tt1 wi2 g2 tt2 te (own.map (·.2)) vs1 vs2 σ H Q)
    (hRR : ∀ D C s' m H', Inv X pins σ H' s' → Q (.ref D) H' → s'.heap.Ns C m → FpOk X pins H' C → compPost (model X.prog X.w) X.A X.xe use Qf (.ref D) C (.ok .next) s') :
    wpAny (model X.prog X.w) X.A (comprehension (LC3 elt tg iter tg1 iter1 tg2 iter2 ifs ifs1 ifs2 scope pos) scope X.env pos' (newList []) false (eval iter X.env) use) Qf X.xe s := by
  have hfree : ∀ y ∈ scope.names, y.2 = .free → ∃ c, X.env.cells.lookup y.1 = some c := fun y hy e => by
    rcases ok.free y hy e with k | k
    · exact I.ok.has _ (.inl k)
    · exact I.ok.has _ (.inr k)
  refine wpAny_comprehension_free (use := use) rfl hs (closure_ok hfree) ok.kind (fun y hy e => by rw [ok.uniq y hy, e])
    (thn (hi.run pins s σ H _ I h) fun xv s1 hx => thn hx fun itv s2 h2 => ?_)
  obtain ⟨it, fp, tn, J, H2, e, I2, T, st2, f2, q⟩ := h2
  subst e
  refine wpAny_newObj_type (newEnv_comp ?_) (by show 0 ≤ sizeLine; decide)
  generalize hD : s2.heap.objs.size = D
  have hDn : H2 D = none := I2.hok.fresh (Nat.le_of_eq hD)
  obtain ⟨W, ⟨m0, w0⟩, turn⟩ := q D hDn
  -- the new list
  generalize hs3 : ({ s2 with heap := s2.heap.push { cls := .type "list", data := .seq ([] : List Value).toArray } } : Shared) = s3
  have I3 : Inv X pins σ (upd H2 D (.lst [])) s3 := by
    rw [← hs3]
    refine I2.laid (t' := s2.toks) (fun b o e => Heap.get?_push_of_some _ e) (Nat.le_of_eq hD) ⟨Nat.zero_le _, [], 0, .nil, ?_⟩
    rw [← hD]
    exact Heap.get?_push_size _ rfl
  have h3 : s3.heap = s2.heap.push { cls := .type "list", data := .seq ([] : List Value).toArray } := by rw [← hs3]
  have sz : ∀ b ∈ fp, b < s2.heap.objs.size := fun b hb => by
    obtain ⟨o, e, _⟩ := T.obj _ _ st2 b hb
    exact Heap.lt_size e
  have f3 : ∀ b ∈ fp, FpOk X pins (upd H2 D (.lst [])) b ∧ b < s3.heap.objs.size := fun b hb => by
    have hlt := sz b hb
    refine ⟨⟨?_, (f2 b hb).2⟩, by rw [h3, Heap.size_push]; exact Nat.lt_succ_of_lt hlt⟩
    rw [upd_ne (by rw [← hD]; exact Nat.ne_of_lt hlt)]
    exact (f2 b hb).1
  have st3 : tn 0 s3.heap := T.keep _ _ _ st2 fun b _ o e => by rw [h3]; exact Heap.get?_push_of_some _ e
  have I4 := block_start I3 ok hN f3
  have pg := hg s3 (upd H2 D (.lst [])) s3.heap.objs.size (cellsFrom (s3.heap.objs.size + 1) scope.names (cloFrom X.env.cells scope.names [])) fp
  have pt := ht s3 (upd H2 D (.lst [])) s3.heap.objs.size (cellsFrom (s3.heap.objs.size + 1) scope.names (cloFrom X.env.cells scope.names [])) fp
  have pe := he s3 (upd H2 D (.lst [])) s3.heap.objs.size (cellsFrom (s3.heap.objs.size + 1) scope.names (cloFrom X.env.cells scope.names [])) fp
  have pi1 := hi1 s3 (upd H2 D (.lst [])) s3.heap.objs.size (cellsFrom (s3.heap.objs.size + 1) scope.names (cloFrom X.env.cells scope.names [])) fp
  have pg1 := hg1 s3 (upd H2 D (.lst [])) s3.heap.objs.size (cellsFrom (s3.heap.objs.size + 1) scope.names (cloFrom X.env.cells scope.names [])) fp
  have pt1 := ht1 s3 (upd H2 D (.lst [])) s3.heap.objs.size (cellsFrom (s3.heap.objs.size + 1) scope.names (cloFrom X.env.cells scope.names [])) fp
  have pi2 := hi2 s3 (upd H2 D (.lst [])) s3.heap.objs.size (cellsFrom (s3.heap.objs.size + 1) scope.names (cloFrom X.env.cells scope.names [])) fp
  have pg2 := hg2 s3 (upd H2 D (.lst [])) s3.heap.objs.size (cellsFrom (s3.heap.objs.size + 1) scope.names (cloFrom X.env.cells scope.names [])) fp
  have pt2 := ht2 s3 (upd H2 D (.lst [])) s3.heap.objs.size (cellsFrom (s3.heap.objs.size + 1) scope.names (cloFrom X.env.cells scope.names [])) fp
  show codeAny _ _ (.compStart (LC3 elt tg iter tg1 iter1 tg2 iter2 ifs ifs1 ifs2 scope pos) 0 (.ref it) (.ref D) (compEnvC scope (cellsFrom (s3.heap.objs.size + 1) scope.names (cloFrom X.env.cells scope.names [])) s3.heap.objs.size X.env)) (compPost (model X.prog X.w) X.A X.xe use Qf (.ref D) s3.heap.objs.size) { s3 with heap := pushCells (s3.heap.push { cls := .type "dict", data := .dict #[] }) scope.names }
  have nfp : ∀ b ∈ fp, (upd H2 D (.lst [])) b = none := fun b hb => (f3 b hb).1.1
  generalize hce : compEnvC scope (cellsFrom (s3.heap.objs.size + 1) scope.names (cloFrom X.env.cells scope.names [])) s3.heap.objs.size X.env = ce at I4 pg pt pe pi1 pg1 pt1 pi2 pg2 pt2 ⊢
  have cL : ce.locals = s3.heap.objs.size := by subst hce; rfl
  generalize hH3 : upd H2 D (.lst []) = H3 at I3 I4 pg pt pe pi1 pg1 pt1 pi2 pg2 pt2 w0 nfp f3
  generalize hs4 : ({ s3 with heap := pushCells (s3.heap.push { cls := .type "dict", data := .dict #[] }) scope.names } : Shared) = s4 at I4 ⊢
  have st4 : tn 0 s4.heap := T.keep _ _ _ st3 fun b _ o e => by rw [← hs4]; exact pushCells_keeps _ _ _ _ (Heap.get?_push_of_some _ e)
  have stat : ∀ {σ' : St} {H' : Hp} {s' : Shared}, Inv (X.blk s3 H3 scope ce fp) [] σ' H' s' → (∀ b ∈ fp, H' b = none) → ∀ b ∈ fp, FpOk (X.blk s3 H3 scope ce fp) [] H' b := fun {σ' H' s'} I' hn b hb =>
    ⟨hn b hb, (I'.ok.exf b hb).1, I'.ok.exfs b hb, .inl hb, fun x c e => (I'.ok.exf b hb).2 x c e, fun p hp => absurd (show p ∈ ([] : List (Addr × Obj)) ++ [] from hp) (by simp)⟩
  have loop : codeAny (model X.prog X.w) X.A (.compLoop (LC3 elt tg iter tg1 iter1 tg2 iter2 ifs ifs1 ifs2 scope pos) 0 (.ref it) (.ref D) ce) (compPost (model X.prog X.w) X.A X.xe use Qf (.ref D) s3.heap.objs.size) s4 := by
    refine compLoop3_g (t := tg) (i := iter1) (ifs := ifs) (pi := iter.pos) tg iter (fun _ _ _ => compTurn3_0 ..) (hs1 ce) (fun n s' => ∃ i H', Inv (X.blk s3 H3 scope ce fp) [] (wipe σ (own.map (·.2))) H' s' ∧ tn i s'.heap ∧ (∀ b ∈ fp, H' b = none) ∧ W i n H') ?_ m0 ⟨0, H3, I4, st4, nfp, w0⟩
    rintro n s5 ⟨i, H5, I5, st5, n5, w5⟩
    rcases turn i n H5 w5 with ⟨stop, qq⟩ | ⟨go, Nx, hNx, step⟩
    · have td := T.done (X.blk s3 H3 scope ce fp) rfl rfl rfl hc i [] s5 _ H5 (fun _ _ => False) I5 (stat I5 n5) st5 stop
      refine thnF td fun r s6 ⟨hr, I6⟩ => ?_
      subst hr
      -- back in the def's context
      have I7 : Inv X pins σ H5 s6 := I3.call' (ch := fp) I6.os I6.base I6.hok I6.bare fun b hb => ⟨(f3 b hb).1.2.2.2.1, (f3 b hb).1.2.1, (f3 b hb).1.2.2.2.2.1, (f3 b hb).1.2.2.2.2.2⟩
      have nC : H5 s3.heap.objs.size = none := by
        have z : H5 ce.locals = none := I6.free
        rw [cL] at z
        exact z
      obtain ⟨m, hn, _⟩ := I6.loc
      have hn : s6.heap.Ns ce.locals m := hn
      rw [cL] at hn
      exact hRR D s3.heap.objs.size s6 m H5 I7 qq hn (I3.fpOk (Nat.le_refl _) nC)
    · have ti := T.item (X.blk s3 H3 scope ce fp) rfl rfl rfl hc i [] s5 _ H5 (fun _ _ => False) I5 (stat I5 n5) st5 go
      refine thnF ti fun r s6 ⟨u, hr, h6⟩ => ?_
      subst hr
      refine thnF h6 fun _ s7 ⟨x, H7, I7, r7, y7, st7, n7⟩ => ?_
      have I7' := I7.pinned (stat I7 n7) (T.obj _ _ st7)
      refine thnF (pg.run _ s7 _ H7 x u _ I7' r7 (step x H7 y7)) fun _ s8 ⟨σ8, H8, I8, hw8, q8⟩ => ?_
      refine thnF (pt.run _ s8 σ8 H8 _ I8 q8) fun b s9 ⟨H9, I9, q9⟩ => ?_
      -- the turn's end, from any slots that know what the block knew at its start
      have fin : ∀ {σ9 : St} {s' : Shared} {H' : Hp}, Inv (X.blk s3 H3 scope ce fp) ([] ++ pinsAt fp s7.heap) σ9 H' s' → (wipe σ (own.map (·.2))).length = σ9.length → (∀ (j : Nat) v, (wipe σ (own.map (·.2)))[j]? = some (some v) → σ9[j]? = some (some v)) → Nx H' →
          ∃ m, m < n ∧ ∃ i H', Inv (X.blk s3 H3 scope ce fp) [] (wipe σ (own.map (·.2))) H' s' ∧ tn i s'.heap ∧ (∀ b ∈ fp, H' b = none) ∧ W i m H' := fun {σ9 s' H'} I' hl hk nx => by
        obtain ⟨m', hm, w'⟩ := hNx H' nx
        have pin' : ∀ b ∈ fp, ∀ o, s7.heap.get? b = some o → s'.heap.get? b = some o ∧ H' b = none := fun b hb o e =>
          let z := I'.pin (b, o) (List.mem_append_right _ (List.mem_append_right _ (mem_pinsAt hb e)))
          ⟨z.1, z.2.1⟩
        refine ⟨m', hm, i + 1, H', (I'.unpinned (pins := [])).weak hl hk, T.keep _ _ _ st7 fun b hb o e => (pin' b hb o e).1, fun b hb => ?_, w'⟩
        obtain ⟨o, e, _⟩ := T.obj _ _ st7 b hb
        exact (pin' b hb o e).2
      have hl8 : (wipe σ (own.map (·.2))).length = σ8.length := by rw [← hw8, wipe_length]
      have hk8 : ∀ (j : Nat) v, (wipe σ (own.map (·.2)))[j]? = some (some v) → σ8[j]? = some (some v) := fun j v e => by
        rw [← hw8] at e
        exact (wipe_some e).1
      have hk9 : ∀ (j : Nat) v, (wipe σ (own.map (·.2)))[j]? = some (some v) → (wipe σ8 vs1)[j]? = some (some v) := fun j v e => by
        rw [← hw8] at e
        obtain ⟨e1, e2⟩ := wipe_some e
        rw [wipe_out fun z => e2 (hv j z)]
        exact e1
      cases b with
      | false =>
        simp only [Bool.false_eq_true, if_false] at q9 ⊢
        exact fin I9 hl8 hk8 q9
      | true =>
        simp only [if_true] at q9 ⊢
        refine thnF (pi1.run _ s9 σ8 H9 _ I9 q9) fun xv s10 hx => thnF hx fun itv s11 h11 => ?_
        obtain ⟨it1, fp1, tn1, J1, H11, e1, I11, T1, st11, f11, W1, ⟨m1, w1⟩, turn1⟩ := h11
        subst e1
        -- the inner loop
        have stat1 : ∀ {H' : Hp}, (∀ b ∈ fp1, H' b = none) → ∀ b ∈ fp1, FpOk (X.blk s3 H3 scope ce fp) ([] ++ pinsAt fp s7.heap) H' b := fun hn b hb => ⟨hn b hb, (f11 b hb).2⟩
        have loop1 : codeAny (model X.prog X.w) X.A (.compLoop (LC3 elt tg iter tg1 iter1 tg2 iter2 ifs ifs1 ifs2 scope pos) 1 (.ref it1) (.ref D) ce)
            (fun r s' => match r with
              | .ok _ => ∃ m, m < n ∧ ∃ i H', Inv (X.blk s3 H3 scope ce fp) [] (wipe σ (own.map (·.2))) H' s' ∧ tn i s'.heap ∧ (∀ b ∈ fp, H' b = none) ∧ W i m H'
              | .error _ => False) s11 := by
          refine compLoop3_g (t := tg1) (i := iter2) (ifs := ifs1) (pi := iter1.pos) tg1 iter1 (fun _ _ _ => compTurn3_1 ..) (hs2 ce) (fun k s' => ∃ j H', Inv (X.blk s3 H3 scope ce fp) ([] ++ pinsAt fp s7.heap) (wipe σ8 vs1) H' s' ∧ tn1 j s'.heap ∧ (∀ b ∈ fp1, H' b = none) ∧ W1 j k H') ?_ m1 ⟨0, H11, I11.weak (wipe_length _ _) (fun j v e => (wipe_some e).1), st11, fun b hb => (f11 b hb).1, w1⟩
          rintro k s12 ⟨j, H12, I12, st12, n12, w12⟩
          rcases turn1 j k H12 w12 with ⟨stop1, nx1⟩ | ⟨go1, Nx1, hNx1, step1⟩
          · refine thnF (T1.done (X.blk s3 H3 scope ce fp) rfl rfl rfl hc j _ s12 (wipe σ8 vs1) H12 (fun _ _ => False) I12 (stat1 n12) st12 stop1) fun r s13 ⟨hr, I13⟩ => ?_
            subst hr
            exact fin I13 (hl8.trans (wipe_length σ8 vs1).symm) hk9 nx1
          · refine thnF (T1.item (X.blk s3 H3 scope ce fp) rfl rfl rfl hc j _ s12 (wipe σ8 vs1) H12 (fun _ _ => False) I12 (stat1 n12) st12 go1) fun r s13 ⟨u1, hr, h13⟩ => ?_
            subst hr
            refine thnF h13 fun _ s14 ⟨x1, H14, I14, r14, y14, st14, n14⟩ => ?_
            have I14' := I14.pinned (stat1 n14) (T1.obj _ _ st14)
            refine thnF (pg1.run _ s14 (wipe σ8 vs1) H14 x1 u1 _ I14' r14 (step1 x1 H14 y14)) fun _ s15 ⟨σ15, H15, I15, hw15, q15⟩ => ?_
            refine thnF (pt1.run _ s15 σ15 H15 _ I15 q15) fun b1 s16 ⟨H16, I16, q16⟩ => ?_
            have hl15 : (wipe σ8 vs1).length = σ15.length := by rw [← hw15, wipe_length]
            have hk15 : ∀ (j : Nat) v, (wipe σ8 vs1)[j]? = some (some v) → σ15[j]? = some (some v) := fun j v e => by
              rw [← hw15] at e
              exact (wipe_some e).1
            have hk16 : ∀ (j : Nat) v, (wipe σ8 vs1)[j]? = some (some v) → (wipe σ15 vs2)[j]? = some (some v) := fun j v e => by
              rw [← hw15] at e
              obtain ⟨e1, e2⟩ := wipe_some e
              rw [wipe_out fun z => e2 (hv2 j z)]
              exact e1
            have fin1 : ∀ {σ' : St} {s' : Shared} {H' : Hp}, Inv (X.blk s3 H3 scope ce fp) (([] ++ pinsAt fp s7.heap) ++ pinsAt fp1 s14.heap) σ' H' s' → (wipe σ8 vs1).length = σ'.length → (∀ (j : Nat) v, (wipe σ8 vs1)[j]? = some (some v) → σ'[j]? = some (some v)) → Nx1 H' → ∃ m, m < k ∧ ∃ j H', Inv (X.blk s3 H3 scope ce fp) ([] ++ pinsAt fp s7.heap) (wipe σ8 vs1) H' s' ∧ tn1 j s'.heap ∧ (∀ b ∈ fp1, H' b = none) ∧ W1 j m H' := fun {σ' s' H'} I' hl hk nx => by
              obtain ⟨m', hm, w'⟩ := hNx1 H' nx
              have pin' : ∀ b ∈ fp1, ∀ o, s14.heap.get? b = some o → s'.heap.get? b = some o ∧ H' b = none := fun b hb o e =>
                let z := I'.pin (b, o) (List.mem_append_right _ (List.mem_append_right _ (mem_pinsAt hb e)))
                ⟨z.1, z.2.1⟩
              refine ⟨m', hm, j + 1, H', I'.unpinned.weak hl hk, T1.keep _ _ _ st14 fun b hb o e => (pin' b hb o e).1, fun b hb => ?_, w'⟩
              obtain ⟨o, e, _⟩ := T1.obj _ _ st14 b hb
              exact (pin' b hb o e).2
            cases b1 with
            | false =>
              simp only [Bool.false_eq_true, if_false] at q16 ⊢
              exact fin1 I16 hl15 hk15 q16
            | true =>
              simp only [if_true] at q16 ⊢
              refine thnF (pi2.run _ s16 σ15 H16 _ I16 q16) fun xv s17 hx => thnF hx fun itv s18 h18 => ?_
              obtain ⟨it2, fp2, tn2, J2, H18, e2, I18, T2, st18, f18, W2, ⟨m2, w2⟩, turn2⟩ := h18
              subst e2
              have stat2 : ∀ {H' : Hp}, (∀ b ∈ fp2, H' b = none) → ∀ b ∈ fp2, FpOk (X.blk s3 H3 scope ce fp) (([] ++ pinsAt fp s7.heap) ++ pinsAt fp1 s14.heap) H' b := fun hn b hb => ⟨hn b hb, (f18 b hb).2⟩
              have loop2 : codeAny (model X.prog X.w) X.A (.compLoop (LC3 elt tg iter tg1 iter1 tg2 iter2 ifs ifs1 ifs2 scope pos) 2 (.ref it2) (.ref D) ce)
                  (fun r s' => match r with
                    | .ok _ => ∃ m, m < k ∧ ∃ j H', Inv (X.blk s3 H3 scope ce fp) ([] ++ pinsAt fp s7.heap) (wipe σ8 vs1) H' s' ∧ tn1 j s'.heap ∧ (∀ b ∈ fp1, H' b = none) ∧ W1 j m H'
                    | .error _ => False) s18 := by
                refine compLoop3_in (fun p s' => ∃ l H', Inv (X.blk s3 H3 scope ce fp) (([] ++ pinsAt fp s7.heap) ++ pinsAt fp1 s14.heap) (wipe σ15 vs2) H' s' ∧ tn2 l s'.heap ∧ (∀ b ∈ fp2, H' b = none) ∧ W2 l p H') ?_ m2 ⟨0, H18, I18.weak (wipe_length _ _) (fun j v e => (wipe_some e).1), st18, fun b hb => (f18 b hb).1, w2⟩
                rintro p s19 ⟨l, H19, I19, st19, n19, w19⟩
                rcases turn2 l p H19 w19 with ⟨stop2, nx2⟩ | ⟨go2, Nx2, hNx2, step2⟩
                · refine thnF (T2.done (X.blk s3 H3 scope ce fp) rfl rfl rfl hc l _ s19 (wipe σ15 vs2) H19 (fun _ _ => False) I19 (stat2 n19) st19 stop2) fun r s20 ⟨hr, I20⟩ => ?_
                  subst hr
                  exact fin1 I20 (hl15.trans (wipe_length σ15 vs2).symm) hk16 nx2
                · refine thnF (T2.item (X.blk s3 H3 scope ce fp) rfl rfl rfl hc l _ s19 (wipe σ15 vs2) H19 (fun _ _ => False) I19 (stat2 n19) st19 go2) fun r s20 ⟨u2, hr, h20⟩ => ?_
                  subst hr
                  refine thnF h20 fun _ s21 ⟨x2, H21, I21, r21, y21, st21, n21⟩ => ?_
                  have I21' := I21.pinned (stat2 n21) (T2.obj _ _ st21)
                  refine thnF (pg2.run _ s21 (wipe σ15 vs2) H21 x2 u2 _ I21' r21 (step2 x2 H21 y21)) fun _ s22 ⟨σ22, H22, I22, hw22, q22⟩ => ?_
                  refine thnF (pt2.run _ s22 σ22 H22 _ I22 q22) fun b2 s23 ⟨H23, I23, q23⟩ => ?_
                  have fin2 : ∀ {s' : Shared} {H' : Hp}, Inv (X.blk s3 H3 scope ce fp) ((([] ++ pinsAt fp s7.heap) ++ pinsAt fp1 s14.heap) ++ pinsAt fp2 s21.heap) σ22 H' s' → Nx2 H' → ∃ m, m < p ∧ ∃ l H', Inv (X.blk s3 H3 scope ce fp) (([] ++ pinsAt fp s7.heap) ++ pinsAt fp1 s14.heap) (wipe σ15 vs2) H' s' ∧ tn2 l s'.heap ∧ (∀ b ∈ fp2, H' b = none) ∧ W2 l m H' := fun {s' H'} I' nx => by
                    obtain ⟨m', hm, w'⟩ := hNx2 H' nx
                    have pin' : ∀ b ∈ fp2, ∀ o, s21.heap.get? b = some o → s'.heap.get? b = some o ∧ H' b = none := fun b hb o e =>
                      let z := I'.pin (b, o) (List.mem_append_right _ (List.mem_append_right _ (mem_pinsAt hb e)))
                      ⟨z.1, z.2.1⟩
                    refine ⟨m', hm, l + 1, H', I'.unpinned.weak (by rw [← hw22, wipe_length]) (fun j v e => by rw [← hw22] at e; exact (wipe_some e).1), T2.keep _ _ _ st21 fun b hb o e => (pin' b hb o e).1, fun b hb => ?_, w'⟩
                    obtain ⟨o, e, _⟩ := T2.obj _ _ st21 b hb
                    exact (pin' b hb o e).2
                  cases b2 with
                  | false =>
                    simp only [Bool.false_eq_true, if_false] at q23 ⊢
                    exact fin2 I23 q23
                  | true =>
                    simp only [if_true] at q23 ⊢
                    refine thnF (pe.run _ s23 σ22 H23 _ I23 q23) fun z s24 ⟨yv, H24, I24, r24, acc, hD24, hz24, nx⟩ => ?_
                    exact app_ok (X := X.blk s3 H3 scope ce fp) I24 hD24 hz24 r24 fun s25 I25 => fin2 I25 nx
              exact compStart3_ok 1 loop2 (T2.self X.A 0 _ _ _ st18 loop2) (.inr rfl)
        exact compStart3_ok 0 loop1 (T1.self X.A 0 _ _ _ st11 loop1) (.inl rfl)
  exact codeAny_compStart_list loop (T.self X.A 0 _ _ _ st4 loop)
theorem pe_lc3 {elt tg iter tg1 iter1 tg2 iter2 : Expr} {ifs ifs1 ifs2 : List Expr} {scope : Scope} {own : List (Str × Nat)} {vs1 vs2 : List Nat} {pos : Pos} {wi wi1 wi2 : TI} {g g1 g2 : TG} {tt tt1 tt2 : TT} {te : TE} (hc : X.calm = true) (hN : X.N.Nodup) (hi : PI X tg iter wi) (ok : BlkOk X.N X.env.scope scope own) (hv : ∀ i ∈ vs1, i ∈ own.map (·.2)) (hv2 : ∀ i ∈ vs2, i ∈ vs1)
    (hg : ∀ (s : Shared) (H : Hp) (C : Addr) (cl : List (Str × Addr)) (fp : List Addr), PG (X.blk s H scope (compEnvC scope cl C X.env) fp) tg g) (ht : ∀ (s : Shared) (H : Hp) (C : Addr) (cl : List (Str × Addr)) (fp : List Addr), PTs (X.blk s H scope (compEnvC scope cl C X.env) fp) ifs tt)
    (hi1 : ∀ (s : Shared) (H : Hp) (C : Addr) (cl : List (Str × Addr)) (fp : List Addr), PI (X.blk s H scope (compEnvC scope cl C X.env) fp) tg1 iter1 wi1)
    (hg1 : ∀ (s : Shared) (H : Hp) (C : Addr) (cl : List (Str × Addr)) (fp : List Addr), PG (X.blk s H scope (compEnvC scope cl C X.env) fp) tg1 g1) (ht1 : ∀ (s : Shared) (H : Hp) (C : Addr) (cl : List (Str × Addr)) (fp : List Addr), PTs (X.blk s H scope (compEnvC scope cl C X.env) fp) ifs1 tt1)
    (hi2 : ∀ (s : Shared) (H : Hp) (C : Addr) (cl : List (Str × Addr)) (fp : List Addr), PI (X.blk s H scope (compEnvC scope cl C X.env) fp) tg2 iter2 wi2)
    (hg2 : ∀ (s : Shared) (H : Hp) (C : Addr) (cl : List (Str × Addr)) (fp : List Addr), PG (X.blk s H scope (compEnvC scope cl C X.env) fp) tg2 g2) (ht2 : ∀ (s : Shared) (H : Hp) (C : Addr) (cl : List (Str × Addr)) (fp : List Addr), PTs (X.blk s H scope (compEnvC scope cl C X.env) fp) ifs2 tt2)
    (he : ∀ (s : Shared) (H : Hp) (C : Addr) (cl : List (Str × Addr)) (fp : List Addr), PE (X.blk s H scope (compEnvC scope cl C X.env) fp) elt te) (hs : ∀ x, foldedSetIterable iter X.env x = pure x := by intro _; rfl) (hs1 : ∀ env x, foldedSetIterable iter1 env x = pure x := by intro _ _; rfl) (hs2 : ∀ env x, foldedSetIterable iter2 env x = pure x := by intro _ _; rfl) :
    PE X (LC3 elt tg iter tg1 iter1 tg2 iter2 ifs ifs1 ifs2 scope pos) (tLc3 wi g tt wi1 g1 tt1 wi2 g2 tt2 te (own.map (·.2)) vs1 vs2) := by
  refine ⟨fun pins s σ H Q I h => ?_⟩
  rw [eval_ListComp]
  refine lc3_core hc hN I hi ok hv hv2 hg ht he hs hi1 hg1 ht1 hi2 hg2 ht2 hs1 hs2 h fun D C s' m H' I' q hn f => ⟨m, hn, fun h'' sb => ?_⟩
  obtain ⟨f0, f1, f2, f3, f4, f5⟩ := f
  exact ⟨.ref D, H', I'.turned (t' := s'.toks) (fun b o hb e => (sb.2 b hb).trans e) f0 f1 f3 f4 f5, rfl, q⟩
end
end L2

/-! xs[::-1] of a tuple -/
namespace Rv
open PySem PySem.Spec PyProof.Rows L2 Hb Sq Ow
theorem places_rev (n : Nat) : Builtin.Slice.slicePlaces ((n : Int) - 1) (-1) (-1) = n := by
  unfold Builtin.Slice.slicePlaces
  rw [if_neg (by decide)]
  by_cases c : n = 0
  · subst c; decide
  · rw [if_pos (by omega)]
    have : ((n : Int) - 1 - -1 - 1) / - -1 + 1 = (n : Int) := by
      have : (- -1 : Int) = 1 := rfl
      rw [this, Int.ediv_one]; omega
    rw [this]; omega
theorem applied_rev {prog : Program} {w : World} {A : Around} {E : Value → Shared → Prop} {s : Shared} {sl : Addr} {vl vu vs : Value} {n : Nat} {Q : Int × Int × Nat → Shared → Prop}
    (hs : s.heap.IsSliceOf sl vl vu vs) (pl : IsPart vl none) (pu : IsPart vu none) (ps : IsPart vs (some (-1))) (h : Q ((n : Int) - 1, -1, n) s) : wpAny (model prog w) A (Builtin.Slice.sliceApplied (.ref sl) (pure (n : Int))) Q E s := by
  obtain ⟨os, hos, hcs, hds⟩ := id hs
  refine wpAny_bind (wpAny_bind (wpAny_field hos hds rfl (wpAny_bind (wpAny_field hos hds rfl (wpAny_bind (wpAny_field hos hds rfl (wpAny_pure (wpAny_bind (HT.slicePart_ ps ?_)))))))))
  show wpAny (model prog w) A (if ((-1 : Int) == 0) = true then _ else _) Q E s
  rw [if_neg (by decide)]
  refine wpAny_bind (HT.slicePart_ pl (wpAny_bind (HT.slicePart_ pu (wpAny_bind (wpAny_pure ?_)))))
  show wpAny (model prog w) A (pure ((n : Int) - 1, -1, Builtin.Slice.slicePlaces ((n : Int) - 1) (-1) (-1))) Q E s
  rw [places_rev]
  exact wpAny_pure h
theorem fm_map {α β : Type} (f : α → Option β) (g : α → β) : ∀ l : List α, (∀ k ∈ l, f k = some (g k)) → l.filterMap f = l.map g
  | [], _ => rfl
  | a :: l, h => by
    rw [List.filterMap_cons, h a List.mem_cons_self, List.map_cons, fm_map f g l fun k hk => h k (List.mem_cons_of_mem _ hk)]
theorem pick_rev (xs : Array Value) : (List.filterMap (fun k : Nat => xs[(((xs.size : Nat) : Int) - 1 + (k : Int) * -1).toNat]?) (List.range xs.size)).toArray = xs.toList.reverse.toArray := by
  congr 1
  apply List.ext_getElem?
  intro i
  have key : List.filterMap (fun k : Nat => xs[(((xs.size : Nat) : Int) - 1 + (k : Int) * -1).toNat]?) (List.range xs.size) = (List.range xs.size).map (fun k => xs.getD (xs.size - 1 - k) .none) := by
    refine fm_map _ _ _ fun k hk => ?_
    have hk := List.mem_range.mp hk
    have e : (((xs.size : Nat) : Int) - 1 + (k : Int) * -1).toNat = xs.size - 1 - k := by omega
    rw [e]
    have hlt : xs.size - 1 - k < xs.size := by omega
    rw [Array.getElem?_eq_getElem hlt]
    simp [Array.getD, hlt]
  rw [key, List.getElem?_map]
  by_cases hi : i < xs.size
  · rw [List.getElem?_range hi, List.getElem?_reverse (by rw [Array.length_toList]; exact hi)]
    have hlt : xs.size - 1 - i < xs.size := by omega
    rw [Array.length_toList, Array.getElem?_toList, Array.getElem?_eq_getElem hlt]
    simp [Array.getD, hlt]
  · rw [List.getElem?_eq_none (by rw [List.length_range]; omega), List.getElem?_eq_none (by rw [List.length_reverse, Array.length_toList]; omega)]
    rfl
theorem getItem_tuple_rev {prog : Program} {w : World} {A : Around} {E : Value → Shared → Prop} {s : Shared} {t sl : Addr} {items : Array Value} {vl vu vs : Value} {Q : Value → Shared → Prop}
    (ht : IsTup s.heap t items) (hs : s.heap.IsSliceOf sl vl vu vs) (pl : IsPart vl none) (pu : IsPart vu none) (ps : IsPart vs (some (-1)))
    (h : Q (.ref s.heap.objs.size) { s with heap := s.heap.push { cls := .type "tuple", data := .seq items.toList.reverse.toArray } }) (hsz : items.size ≤ sizeLine) :
    wpAny (model prog w) A (getItem (.ref t) (.ref sl)) Q E s := by
  obtain ⟨os, hos, hcs, hds⟩ := id hs
  have hTs : s.TypeIs (.ref sl) "slice" := ⟨os, hos, hcs⟩
  refine wpAny_holding (wpAny_bind (wpAny_sequenceKey ht.typeIs (by decide) (wpAny_bind (wpAny_callSpecial?_slot ht.typeIs PyProof.Rows.slot_tuple_getitem (wpAny_call_entry PyProof.Rows.slot_tuple_getitem ht.typeIs PyProof.Rows.entry_tuple_getitem ?_ (PyProof.Rows.args_tuple_getitem (.ref t) (.ref sl)))))))
  unfold Builtin.«tuple.__getitem__»
  rw [show slotArgs "__getitem__" 1 { pos := [Value.ref t, Value.ref sl] } = pure (Value.ref t, [Value.ref sl]) from rfl]
  refine wpAny_bind (wpAny_pure ?_)
  refine wpAny_bind (PyProof.Rows.tupleItemsOf_ ht (wpAny_bind (wpAny_typeOf hTs ?_)))
  rw [if_pos (by decide)]
  refine wpAny_bind (applied_rev hs pl pu ps ?_)
  show wpAny (model prog w) A.in1 (if (((items.size : Int) - 1 == 0 && (-1 : Int) == 1) && items.size == items.size) = true then _ else _) _ E s
  rw [if_neg (by simp)]
  show wpAny (model prog w) A.in1 (do let r ← Builtin.Tuple.tupleExact (List.filterMap (fun k : Nat => items[(((items.size : Nat) : Int) - 1 + (k : Int) * -1).toNat]?) (List.range items.size)).toArray; ret r) _ E s
  rw [pick_rev]
  refine wpAny_bind (wpAny_newObj_type (wpAny_pure ⟨.ref s.heap.objs.size, rfl, wpAny_pure h⟩) ?_)
  show items.toList.reverse.toArray.size ≤ sizeLine
  rw [List.size_toArray, List.length_reverse, Array.length_toList]
  exact hsz
def tRevT (K : PySem.W.Frag) (te : TE) : TE := fun σ H Q => te σ H fun x H1 => ∃ a xs, x = .ref a ∧ SqT K H1 a xs ∧ ∀ p, H1 p = none → Q (.ref p) (upd H1 p (.tup xs.reverse))
theorem pe_revT {X : Cx} {e st : Expr} {te ts : TE} {p3 pos : Pos} (K : PySem.W.Frag) (he : PE X e te) (hs : PE X st ts) (hN : ∀ σ H (Q : VK), Q (.int (-1)) H → ts σ H Q) (hK : X.K = K := by rfl) : PE X (.Subscript e (.Slice none none (some st) p3) pos) (tRevT K te) := by
  subst hK
  refine ⟨fun pins s σ H Q I h => Subscript_ (thn (he.run pins s σ H _ I h) fun v s1 ⟨x, H1, I1, r1, a, xs, ex, hx, q⟩ => ?_)⟩
  subst ex; cases r1
  refine wpAny_Slice (thn (po_none.run pins s1 σ H1 (fun o H2 => o = none ∧ H2 = H1) I1 ⟨rfl, rfl⟩) fun vl s2 ⟨l, H2, I2, pl, el, e2⟩ => ?_)
  subst el e2
  refine thn (po_none.run pins s2 σ H2 (fun o H3 => o = none ∧ H3 = H2) I2 ⟨rfl, rfl⟩) fun vu s3 ⟨u, H3, I3, pu, eu, e3⟩ => ?_
  subst eu e3
  refine thn ((po_some hs).run pins s3 σ H3 (fun o H4 => o = some (-1) ∧ H4 = H3) I3 (hN σ H3 _ ⟨-1, rfl, rfl, rfl⟩)) fun vs s4 ⟨o, H4, I4, ps, eo, e4⟩ => ?_
  subst eo e4
  have I5 : Inv X pins σ H4 { s4 with heap := s4.heap.push { cls := .type "slice", data := .fields #[vl, vu, vs] } } := I4.kept (t' := s4.toks) fun b ob q => Heap.get?_push_of_some _ q
  obtain ⟨its, r, ht, hz⟩ := I5.tuple hx
  have hlen := r.length
  show wpAny (model X.prog X.w) X.A (subscriptTail e (.Slice none none (some st) p3) (.ref a) (.ref s4.heap.objs.size)) (EP X pins σ Q) X.xe { s4 with heap := s4.heap.push { cls := .type "slice", data := .fields #[vl, vu, vs] } }
  refine tail_any (ops := [.ref a, .ref s4.heap.objs.size]) ht.typeIs (PyProof.Rows.slot_tuple_getitem.lookup) ?_ (by with_unfolding_all rfl)
  refine getItem_tuple_rev ht (Heap.IsSliceOf.new _ vl vu vs) pl pu ps ?_ (by rw [List.size_toArray]; omega)
  exact ⟨.ref _, _, I5.laid (t' := s4.toks) (o := .tup xs.reverse) (fun b ob q => Heap.get?_push_of_some _ q) (Nat.le_refl _) ⟨by rw [List.length_reverse]; exact hz, _, r.reverse, _, Heap.get?_push_size _ rfl, rfl, 0, rfl⟩, rfl, q _ (I5.hok.fresh (Nat.le_refl _))⟩
end Rv

namespace K6
open PySem PySem.Spec PyProof.Rows L2 Hb St Sq Ow En Zp RZ Rd Xb Da Lo
/-! ### lots and tales on the heap -/
def rLenK (K : PySem.W.Frag) : List V → Hp → VK → Prop := fun xs H Q => ∃ p ys, xs = [V.ref p] ∧ (SqL K H p ys ∨ SqT K H p ys) ∧ Q (V.int (ys.length : Nat)) H
theorem _root_.Sq.All2.of_mapR {α β γ : Type} {R : α → γ → Prop} {f : β → γ} : ∀ {as : List α} {bs : List β}, All2 (fun a b => R a (f b)) as bs → All2 R as (bs.map f)
  | _, _, .nil => .nil
  | _, _, .cons h t => .cons h (Sq.All2.of_mapR t)
def LotH (H : Hp) (v : V) (l : List Str) : Prop := ∃ b, v = .ref b ∧ H b = some (.tup (l.map V.str))
def TalH (H : Hp) (v : V) (t : Tale) : Prop := ∃ a its, v = .ref a ∧ H a = some (.tup its) ∧ All2 (LotH H) its t
/-- tuples are kept -/
def TupK (H H' : Hp) : Prop := ∀ b xs, H b = some (.tup xs) → H' b = some (.tup xs)
theorem TupK.same {H H' : Hp} (s : Same H H') : TupK H H' := fun b _ e => s b _ e
theorem TupK.fix {H H' : Hp} (s : Fix H H') : TupK H H' := fun b _ e => s b _ e (not_mut_tup _)
theorem TupK.trans {H H1 H2 : Hp} (a : TupK H H1) (b : TupK H1 H2) : TupK H H2 := fun c xs e => b c xs (a c xs e)
theorem LotH.on {H H' : Hp} {v : V} {l : List Str} (h : LotH H v l) (k : TupK H H') : LotH H' v l := let ⟨b, e, t⟩ := h; ⟨b, e, k _ _ t⟩
theorem TalH.on {H H' : Hp} {v : V} {t : Tale} (h : TalH H v t) (k : TupK H H') : TalH H' v t := let ⟨a, its, e, ea, al⟩ := h; ⟨a, its, e, k _ _ ea, al.imp fun _ _ r => r.on k⟩
theorem LotH.same {H H' : Hp} {v : V} {l : List Str} (h : LotH H v l) (s : Same H H') : LotH H' v l := h.on (.same s)
theorem LotH.fix {H H' : Hp} {v : V} {l : List Str} (h : LotH H v l) (s : Fix H H') : LotH H' v l := h.on (.fix s)
theorem TalH.same {H H' : Hp} {v : V} {t : Tale} (h : TalH H v t) (s : Same H H') : TalH H' v t := h.on (.same s)
theorem LotH.dp {K : PySem.W.Frag} {H : Hp} {v : V} {l : List Str} (h : LotH H v l) : Dp K H v (lD l) := let ⟨_, e, t⟩ := h; e ▸ .tup (SqT.of t) (dp_strs l)
def tD (t : Tale) : PyData := .tuple (t.map lD)
theorem TalH.dp {K : PySem.W.Frag} {H : Hp} {v : V} {t : Tale} (h : TalH H v t) : Dp K H v (tD t) := let ⟨_, _, e, ea, al⟩ := h; e ▸ .tup (SqT.of ea) (dp_all (fun _ _ r => r.dp) al)
/-- a tale that can be handled -/
structure TlOk (t : Tale) : Prop where
  nm : ∀ l ∈ t, ∀ x ∈ l, IsNm x
  asc : ∀ l ∈ t, l.Pairwise sLt
  ne : ∀ l ∈ t, l ≠ []
  len : t.length ≤ 100
  lot : ∀ l ∈ t, l.length ≤ 100
theorem sh_lD {l : List Str} (h : ∀ x ∈ l, IsNm x) : Sh 1 (lD l) := sh_tup fun x hx => sh_str (h x hx)
theorem sh_tD {t : Tale} (h : ∀ l ∈ t, ∀ x ∈ l, IsNm x) : Sh 2 (tD t) := sh_tup fun l hl => sh_lD (h l hl)
theorem eqv_lD (a b : List Str) : PyData.eqv (lD a) (lD b) = decide (a = b) := eqvAll_map eqv_str a b
theorem eqv_tD (a b : Tale) : PyData.eqv (tD a) (tD b) = decide (a = b) := eqvAll_map eqv_lD a b
theorem TlOk.thin {t : Tale} (ok : TlOk t) (ns : List Str) : TlOk (thinT ns t) := by
  have m : ∀ l ∈ thinT ns t, l ≠ [] ∧ ∃ l' ∈ t, l = thinL ns l' := fun l hl => thin_ne hl
  refine ⟨fun l hl x hx => ?_, fun l hl => ?_, fun l hl => (m l hl).1, ?_, fun l hl => ?_⟩
  · obtain ⟨_, l', h1, rfl⟩ := m l hl
    exact ok.nm l' h1 x (thin_in.mp hx).1
  · obtain ⟨_, l', h1, rfl⟩ := m l hl
    exact (ok.asc l' h1).sublist (thinL_sub _ _)
  · unfold thinT
    refine Nat.le_trans (List.length_filter_le _ _) ?_
    rw [List.length_map]; exact ok.len
  · obtain ⟨_, l', h1, rfl⟩ := m l hl
    exact Nat.le_trans (thinL_sub _ _).length_le (ok.lot l' h1)
theorem cut_take (xs : List V) (k : Nat) : cutV xs none (some (k : Nat)) = xs.take k := by
  unfold cutV
  rw [HT.sIx_none, HT.sIx_nat, List.drop_zero, Nat.sub_zero]
  rcases Nat.le_total k xs.length with h | h
  · rw [Nat.min_eq_left h]
  · rw [Nat.min_eq_right h, List.take_of_length_le h, List.take_of_length_le (Nat.le_refl _)]
theorem pe_revK {X : Cx} {e st : Expr} {te ts : TE} {p3 pos : Pos} (K : PySem.W.Frag) (he : PE X e te) (hs : PE X st ts) (hN : ∀ σ H (Q : VK), Q (.int (-1)) H → ts σ H Q) (hK : X.K = K := by rfl) : PE X (.Subscript e (.Slice none none (some st) p3) pos) (fun σ H Q => te σ H fun x H1 => ∃ a xs, x = .ref a ∧ SqL K H1 a xs ∧ ∀ p, H1 p = none → Q (.ref p) (upd H1 p (.lst xs.reverse))) := by
  subst hK
  exact pe_rev he hs hN
section
variable {K : PySem.W.Frag} {H : Hp} {Q : VK}
theorem rd_slT {a : Addr} {xs : List V} {lo hi : Option Int} (h : H a = some (.tup xs)) (q : ∀ p H', Same H H' → H' p = some (.tup (cutV xs lo hi)) → Q (.ref p) H') : rSlA K (.ref a) lo hi H Q := by
  refine ⟨a, xs, rfl, SqT.of h, fun ⟨e1, e2⟩ => ?_, fun _ p hp => q p _ (same_new hp _) upd_same⟩
  have e : cutV xs lo hi = xs := by
    unfold cutV
    rw [e1, e2, List.drop_zero, Nat.sub_zero, List.take_of_length_le (Nat.le_refl _)]
  exact q a H (Same.refl _) (by rw [e]; exact h)
theorem rd_catT {a b : Addr} {xs ys : List V} (ha : H a = some (.tup xs)) (hb : H b = some (.tup ys)) (l : xs.length + ys.length ≤ 1000) (q : ∀ p H', Same H H' → H' p = some (.tup (xs ++ ys)) → Q (.ref p) H') : rCatA K (.ref a) (.ref b) H Q := by
  refine ⟨a, b, xs, ys, rfl, rfl, SqT.of ha, SqT.of hb, by rw [sizeLine_eq]; omega, fun e => ?_, fun _ e => ?_, fun _ _ p hp => q p _ (same_new hp _) upd_same⟩
  · exact q b H (Same.refl _) (by rw [e, List.nil_append]; exact hb)
  · exact q a H (Same.refl _) (by rw [e, List.append_nil]; exact ha)
def tTruK (K : PySem.W.Frag) (ta : TE) : TT := fun σ H Q => ta σ H fun x H' => ∃ k, TruV K x H' k ∧ Q k H'
theorem pt_truthK {X : Cx} {a : Expr} {ta : TE} (K : PySem.W.Frag) (hK : X.K = K) (h : PE X a ta) (he : ∀ whole, PySem.isTrue a X.env whole = (do let v ← whole; standAt a.pos; holding [v] (truthy v))) : PT X a (tTruK K ta) := by
  subst hK
  exact pt_truth h he
/-- == and != of tales, of lots -/
theorem rd_eqT {v u : V} {a b : Tale} (ha : TalH H v a) (hb : TalH H u b) (na : ∀ l ∈ a, ∀ x ∈ l, IsNm x) (nb : ∀ l ∈ b, ∀ x ∈ l, IsNm x) (q : Q (.bl (decide (a = b))) H) : rEqD K v u H Q :=
  ⟨tD a, tD b, ha.dp, hb.dp, (sh_tD na).ok (by decide), (sh_tD nb).ok (by decide), by rw [eqv_tD]; exact q⟩
theorem rd_neT {v u : V} {a b : Tale} (ha : TalH H v a) (hb : TalH H u b) (na : ∀ l ∈ a, ∀ x ∈ l, IsNm x) (nb : ∀ l ∈ b, ∀ x ∈ l, IsNm x) (q : Q (.bl (!decide (a = b))) H) : rNeD K v u H Q :=
  ⟨tD a, tD b, ha.dp, hb.dp, (sh_tD na).ok (by decide), (sh_tD nb).ok (by decide), by rw [eqv_tD]; exact q⟩
end
section
variable {P : Program} {w : World} {K : PySem.W.Frag} {mg : Str → Option Value} {base : Heap}
/-! ### begins_with -/
abbrev s_begins_with : Stmt := top 14
theorem sc_begins_with : FnScope ["tale", "other"] ["tale", "other"] (defScope s_begins_with) := ⟨rfl, rfl, rfl, by decide +kernel, rfl, by decide +kernel, by decide +kernel⟩
def spBeg : Sp := fun vs H Q _ => ∃ (v u : V) (a b : Tale), vs = [v, u] ∧ TalH H v a ∧ TalH H u b ∧ TlOk a ∧ TlOk b ∧ ∀ H', Same H H' → Q (.bl (begB a b)) H'
theorem ok_beg {f : Addr} {fd : FuncData} (F : Fun K "begins_with" "begins_with" s_begins_with f fd) (n_len : mg "len" = none) : FnOk P w K mg base CX0 1 f fd ["tale", "other"] spBeg := by
  refine F.ok sc_begins_with (fun vs H Q E h => ?_) (fun cdv A outer s H vs Q E hr h => ?_)
  · obtain ⟨_, _, _, _, rfl, _⟩ := h
    rfl
  · obtain ⟨v, u, a, b, rfl, ha, hb, oa, ob, q⟩ := h
    refine ⟨_, (pss_one (ps_ret (pe_cmpR (op_eqD hr.units) (pe_slice (r := rSlA K) sl_tupA (pv 0) po_none (po_some (pe_callB call_len_seq (by rfl) n_len PySem.boot_len (pa_cons (pv 1) pa_nil)))) (pv 1) (nomark _)))), ?_⟩
    obtain ⟨ap, its, rfl, ea, al⟩ := id ha
    obtain ⟨bp, jts, rfl, eb, bl⟩ := id hb
    refine ⟨_, rfl, _, rfl, bp, _, rfl, .inr (SqT.of eb), _, rfl, rd_slT ea fun p H1 s1 e1 => ?_⟩
    refine ⟨_, rfl, ?_⟩
    rw [cut_take, bl.len] at e1
    have hp : TalH H1 (.ref p) (a.take b.length) := ⟨p, _, rfl, e1, (al.take b.length).imp fun _ _ r => r.same s1⟩
    exact rd_eqT hp (hb.same s1) (fun l m => oa.nm l (List.mem_of_mem_take m)) ob.nm (q _ s1)
/-! ### as_lot -/
abbrev s_as_lot : Stmt := top 10
theorem sc_as_lot : FnScope ["values"] ["values"] (defScope s_as_lot) := ⟨rfl, rfl, rfl, by decide +kernel, rfl, by decide +kernel, by decide +kernel⟩
def spLot (K : PySem.W.Frag) : Sp := fun vs H Q _ => ∃ a : Addr, vs = [.ref a] ∧ ((∃ ns : List Str, SqX K H a (ns.map V.str) ∧ ns.length ≤ 1000 ∧ ∀ p H', Same H H' → H' p = some (.tup ((lotS ns).map V.str)) → Q (.ref p) H') ∨
  (∃ ns : List Int, SqX K H a (ns.map V.int) ∧ ns.length < 64 ∧ ∀ p H', Same H H' → H' p = some (.tup ((lotI ns).map V.int)) → Q (.ref p) H'))
theorem ok_as_lot {f : Addr} {fd : FuncData} (F : Fun K "as_lot" "as_lot" s_as_lot f fd) (n_set : mg "set" = none) (n_sorted : mg "sorted" = none) (n_tuple : mg "tuple" = none) : FnOk P w K mg base CX0 1 f fd ["values"] (spLot K) := by
  refine F.ok sc_as_lot (fun vs H Q E h => ?_) (fun cdv A outer s H vs Q E hr h => ?_)
  · obtain ⟨_, rfl, _⟩ := h
    rfl
  · obtain ⟨a, rfl, ⟨ns, hx, hl, q⟩ | ⟨ns, hx, hl, q⟩⟩ := h
    · refine ⟨_, (pss_one (ps_ret (pe_callTy call_tuple_of (by rfl) n_tuple (by decide +kernel) (pa_cons (pe_callB (cr_sorted2 rfl) (by rfl) n_sorted (by decide +kernel) (pa_cons (pe_callTy (cr_set rfl) (by rfl) n_set (by decide +kernel) (pa_cons (pv 0) pa_nil)) pa_nil)) pa_nil)))), ?_⟩
      exact ⟨_, rfl, rd_lotS hx hl q⟩
    · refine ⟨_, (pss_one (ps_ret (pe_callTy call_tuple_of (by rfl) n_tuple (by decide +kernel) (pa_cons (pe_callB (cr_sorted2 rfl) (by rfl) n_sorted (by decide +kernel) (pa_cons (pe_callTy (cr_set rfl) (by rfl) n_set (by decide +kernel) (pa_cons (pv 0) pa_nil)) pa_nil)) pa_nil)))), ?_⟩
      exact ⟨_, rfl, rd_lotI hx hl q⟩
/-! ### thin_tale -/
abbrev s_thin_tale : Stmt := top 12
theorem sc_thin_tale : FnScope ["tale", "names", "thinned", "lot"] ["tale", "names"] (defScope s_thin_tale) := ⟨rfl, rfl, rfl, by decide +kernel, rfl, by decide +kernel, by decide +kernel⟩
def spThinT (K : PySem.W.Frag) : Sp := fun vs H Q _ => ∃ (v : V) (b : Addr) (t : Tale) (ns : List Str), vs = [v, .ref b] ∧ TalH H v t ∧ SqX K H b (ns.map V.str) ∧ TlOk t ∧ ∀ p H', Same H H' → TalH H' (.ref p) (thinT ns t) → Q (.ref p) H'
theorem ok_thin_tale {f : Addr} {fd : FuncData} (F : Fun K "thin_tale" "thin_tale" s_thin_tale f fd) (C_thin_lot : Cl P w K mg base "thin_lot" ["lot", "names"] [] 1 (spThin K)) (n_tuple : mg "tuple" = none) : FnOk P w K mg base CX0 2 f fd ["tale", "names"] (spThinT K) := by
  refine F.ok sc_thin_tale (fun vs H Q E h => ?_) (fun cdv A outer s H vs Q E hr h => ?_)
  · obtain ⟨_, _, _, _, rfl, _⟩ := h
    rfl
  · obtain ⟨v, b, t, ns, rfl, ht, hb, ok, q⟩ := h
    refine ⟨_, (Evl.pss_cut (ps_setLc (i := 2) (own := [("lot", 3)]) (g := gName 3) (by rfl) sc_thin_tale.nd rfl rfl (sw_true rfl rfl rfl (by decide +kernel)) (pi_seq (pv 0)) (blkOk_by (N := ["tale", "names", "thinned", "lot"]) (sc := defScope s_thin_tale) (by decide +kernel)) (fun _ _ _ _ _ => pg_name (i := 3) sc_thin_tale.nd rfl (Or.inl rfl)) (fun _ _ _ _ _ => pts_nil) (fun _ _ _ _ _ => pe_use C_thin_lot (hr.mono (by decide)) rfl (pa_cons (pv 3) (pa_cons (pv 1) pa_nil))))
    (pss_one (ps_ret (pe_callTy call_tuple_of (by rfl) n_tuple (by decide +kernel) (pa_cons (pe_lc (own := [("lot", 3)]) (g := gName 3) rfl sc_thin_tale.nd (pi_seq (pv 2)) (blkOk_by (N := ["tale", "names", "thinned", "lot"]) (sc := defScope s_thin_tale) (by decide +kernel)) (fun _ _ _ _ _ => pg_name (i := 3) sc_thin_tale.nd rfl (Or.inl rfl)) (fun _ _ _ _ _ => pts_one (pt_truthK K rfl (pv 3) (fun _ => rfl))) (fun _ _ _ _ _ => pv 3)) pa_nil))))), ?_⟩
    obtain ⟨a, its, rfl, ea, al⟩ := id ht
    have l1 := ok.len
    refine ⟨fun σ H' => ∃ (D : Addr) (ys : List V), σ = [some (.ref a), some (.ref b), some (.ref D), none] ∧ Same H H' ∧ H' D = some (.lst ys) ∧ All2 (LotH H') ys (t.map (thinL ns)), ?_, ?_⟩
    · refine ⟨_, rfl, a, its, rfl, SqX.tup ea, fun J S W0 z0 D kD => ?_⟩
      refine lc_mf (ds := t) W0 (fun _ => true) (fun H y l => LotH H y (thinL ns l)) z0 kD al.len (fun i y l H' ey el s m => ?_) (fun H1 ys s1 e1 al1 => ?_)
      · obtain ⟨l', el', hl⟩ := al.get ey
        obtain rfl : l' = l := Option.some.inj (el'.symm.trans el)
        obtain ⟨lb, rfl, elb⟩ := id hl
        refine ⟨rfl, _, rfl, _, rfl, lb, b, l', ns, rfl, SqT.of (s _ _ elb), sqxSame s hb, Nat.le_trans (ok.lot l' (at_mem el)) (by decide), fun p H2 s2 e2 => ?_⟩
        exact mf_yes m kD (fun _ _ _ _ f h => h.fix f) el (by omega) s2 rfl ⟨p, rfl, e2⟩
      · rw [Rd.filter_all] at al1
        exact ⟨D, ys, rfl, s1, e1, al1.of_mapR⟩
    rintro σ H1 ⟨D, ys, rfl, s1, e1, al1⟩
    refine ⟨_, rfl, D, ys, rfl, SqX.lst e1, fun J S W0 z0 D2 kD2 => ?_⟩
    refine lc_mf (ds := t.map (thinL ns)) W0 (fun l => !decide (l = [])) (fun H y l => LotH H y l) z0 kD2 al1.len (fun i y l H' ey el s m => ?_) (fun H2 zs s2 e2 al2 => ?_)
    · obtain ⟨l', el', hl⟩ := al1.get ey
      obtain rfl : l' = l := Option.some.inj (el'.symm.trans el)
      obtain ⟨lb, rfl, elb⟩ := id hl
      refine ⟨rfl, _, rfl, !(l'.map V.str).isEmpty, .inr (.inl ⟨_, SqT.of (s _ _ elb), rfl⟩), ?_⟩
      have lt : (t.map (thinL ns)).length ≤ 100 := by rw [List.length_map]; exact l1
      cases l' with
      | nil => exact mf_no m (fun _ _ _ _ f h => h.fix f) el (Same.refl _) rfl
      | cons x r => exact ⟨_, rfl, mf_yes m kD2 (fun _ _ _ _ f h => h.fix f) el (by omega) (Same.refl _) rfl (hl.same s)⟩
    · refine ⟨D2, zs, rfl, .inl ⟨SqL.of e2, fun p hp => ?_⟩⟩
      have s3 := same_new hp (.tup zs)
      exact q p _ ((s1.trans s2).trans s3) ⟨p, zs, rfl, upd_same, al2.imp fun _ _ r => r.same s3⟩
/-! ### is_parted -/
abbrev s_is_parted : Stmt := top 28
theorem sc_is_parted : FnScope ["one", "other", "names", "surely", "heard", "told"] ["one", "other", "names", "surely"] (defScope s_is_parted) := ⟨rfl, rfl, rfl, by decide +kernel, rfl, by decide +kernel, by decide +kernel⟩
def spParted (K : PySem.W.Frag) : Sp := fun vs H Q _ => ∃ (v u : V) (n : Addr) (a b : Tale) (ns : List Str) (s : Bool), vs = [v, u, .ref n, .bl s] ∧ TalH H v a ∧ TalH H u b ∧ SqX K H n (ns.map V.str) ∧ TlOk a ∧ TlOk b ∧ ∀ H', Same H H' → Q (.bl (partB a b ns s)) H'
theorem ok_parted {f : Addr} {fd : FuncData} (F : Fun K "is_parted" "is_parted" s_is_parted f fd) (C_begins_with : Cl P w K mg base "begins_with" ["tale", "other"] [] 1 spBeg) (C_thin_tale : Cl P w K mg base "thin_tale" ["tale", "names"] [] 2 (spThinT K)) : FnOk P w K mg base CX0 3 f fd ["one", "other", "names", "surely"] (spParted K) := by
  refine F.ok sc_is_parted (fun vs H Q E h => ?_) (fun cdv A outer s H vs Q E hr h => ?_)
  · obtain ⟨_, _, _, _, _, _, _, rfl, _⟩ := h
    rfl
  · obtain ⟨v, u, n, a, b, ns, s, rfl, ha, hb, hn, oa, ob, q⟩ := h
    refine ⟨_, (pss_cons (ps_par (i := 4) (j := 5) (by rfl) sc_is_parted.nd rfl rfl (by decide) rfl rfl (pa_cons (pe_use C_thin_tale (hr.mono (by decide)) rfl (pa_cons (pv 0) (pa_cons (pv 2) pa_nil))) (pa_cons (pe_use C_thin_tale (hr.mono (by decide)) rfl (pa_cons (pv 1) (pa_cons (pv 2) pa_nil))) pa_nil)) (by rfl))
    (Evl.pss_cut (ps_if (pt_val (pv 3)) (pss_one (ps_ret (pe_and (pe_not (pe_use C_begins_with (hr.mono (by decide)) rfl (pa_cons (pv 4) (pa_cons (pv 5) pa_nil)))) (pe_one (pe_not (pe_use C_begins_with (hr.mono (by decide)) rfl (pa_cons (pv 5) (pa_cons (pv 4) pa_nil)))))))) pss_nil)
    (pss_one (ps_ret (pe_cmpR (op_neD hr.units) (pv 4) (pv 5) (nomark _)))))), ?_⟩
    refine ⟨_, rfl, _, rfl, v, n, a, ns, rfl, ha, hn, oa, fun p H1 s1 hp => ?_⟩
    refine ⟨_, rfl, _, rfl, u, n, b, ns, rfl, hb.same s1, sqxSame s1 hn, ob, fun r H2 s2 hr => ?_⟩
    have hp2 := hp.same s2
    have ot := oa.thin ns
    have ou := ob.thin ns
    have q2 : ∀ H', Same H2 H' → Q (.bl (partB a b ns s)) H' := fun H' s3 => q _ ((s1.trans s2).trans s3)
    unfold partB at q2
    refine ⟨_, _, rfl, ?_⟩
    refine ⟨fun σ H' => s = false ∧ σ = [some v, some u, some (.ref n), some (.bl s), some (.ref p), some (.ref r)] ∧ H' = H2, ?_, ?_⟩
    · refine ⟨_, rfl, s, rfl, ?_⟩
      cases s with
      | false => exact iteF ⟨rfl, rfl, rfl⟩
      | true =>
        rw [if_pos rfl] at q2
        refine iteT ⟨_, rfl, _, rfl, .ref p, .ref r, _, _, rfl, hp2, hr, ot, ou, fun H3 s3 => ⟨_, rfl, _, rfl, ?_⟩⟩
        cases c : begB (thinT ns a) (thinT ns b) with
        | true =>
          rw [c] at q2
          exact iteF (q2 _ s3)
        | false =>
          rw [c] at q2
          exact iteT ⟨_, rfl, _, rfl, .ref r, .ref p, _, _, rfl, hr.same s3, hp2.same s3, ou, ot, fun H4 s4 => ⟨_, rfl, q2 _ (s3.trans s4)⟩⟩
    rintro σ H3 ⟨rfl, rfl, rfl⟩
    refine ⟨_, rfl, _, rfl, ?_⟩
    exact rd_neT hp2 hr ot.nm ou.nm (q2 _ (Same.refl _))
end
end K6

namespace K6
open PySem PySem.Spec PyProof.Rows L2 Hb St Sq Ow En Zp RZ Rd Xb
/-- a def of the text that may raise, by its promise -/
structure Cx_ (P : Program) (w : World) (K : PySem.W.Frag) (mg : Str → Option Value) (base : Heap) (x : Str) (ps : List Str) (lv : Nat) (sp : Sp) : Prop where
  ex : ∃ (f : Addr) (fd : FuncData), FnOk P w K mg base (L2.CX P w) lv f fd ps sp ∧ mg x = some (.ref f) ∧ PySem.W.keepIn K (.ref f) = true ∧ Binds K fd ps []
theorem pe_useX {X : Cx} {ps : List Str} {lv : Nat} {sp : Sp} {E : L2.St → XK} {x : Str} {p pos : Pos} {e : Expr} {es : List Expr} {t : TA} (C : Cx_ X.prog X.w X.K X.mg X.base x ps lv sp) (hr : Room lv X.A) (hx : ∀ σ, PassesAt (L2.CX X.prog X.w) X σ (E σ)) (hg : Gl X x) (ha : PA X (e :: es) t) (hdb : (x == ("__debug__" : Str)) = false := by decide)
    (he : starEach (e :: es) X.env = (false, eval e X.env) :: starEach es X.env := by rfl) (hpl : (backTo pos (starEach es X.env)).any (·.1) = false := by rfl) : PE X (.Call (.Name x p) (e :: es) [] pos) (tCallS sp E t) :=
  let ⟨_, _, F, hm, hk, hb⟩ := C.ex
  pe_callS F hr hg hm hk hb hx ha hdb he hpl
end K6

namespace K6
open PySem PySem.Spec PyProof.Rows L2 Hb St Sq Ow En Zp RZ Rd Xb Da Lo
def seqD : PyData → Bool
  | .list _ => true
  | .tuple _ => true
  | _ => false
def itemsD : PyData → List PyData
  | .list ds => ds
  | .tuple ds => ds
  | _ => []
theorem kit_seq {K : PySem.W.Frag} {H : Hp} {v : V} {d : PyData} (h : Dp K H v d) : PySem.W.kitAny K (tyD d) [.type "list", .type "tuple"] = some (seqD d) := by
  have e : ∀ t : Value, ∀ b : Bool, PySem.W.kitOne K t (.type "list") = some b → ∀ c : Bool, PySem.W.kitOne K t (.type "tuple") = some c → PySem.W.kitAny K t [.type "list", .type "tuple"] = some (b || c) := fun t b e1 c e2 => by
    unfold PySem.W.kitAny
    rw [e1]
    cases b with
    | true => rfl
    | false =>
      show PySem.W.kitAny K t [.type "tuple"] = _
      unfold PySem.W.kitAny
      rw [e2]
      cases c <;> rfl
  cases h with
  | non => exact e _ false (kit_ty (a := "NoneType") (b := "list") (r := false) (by decide +kernel)) false (kit_ty (a := "NoneType") (b := "tuple") (r := false) (by decide +kernel))
  | bl b => exact e _ false (kit_ty (a := "bool") (b := "list") (r := false) (by decide +kernel)) false (kit_ty (a := "bool") (b := "tuple") (r := false) (by decide +kernel))
  | int i => exact e _ false (kit_ty (a := "int") (b := "list") (r := false) (by decide +kernel)) false (kit_ty (a := "int") (b := "tuple") (r := false) (by decide +kernel))
  | str x => exact e _ false (kit_ty (a := "str") (b := "list") (r := false) (by decide +kernel)) false (kit_ty (a := "str") (b := "tuple") (r := false) (by decide +kernel))
  | lst _ _ => exact e _ true (kit_ty (a := "list") (b := "list") (r := true) (by decide +kernel)) false (kit_ty (a := "list") (b := "tuple") (r := false) (by decide +kernel))
  | tup _ _ => exact e _ false (kit_ty (a := "tuple") (b := "list") (r := false) (by decide +kernel)) true (kit_ty (a := "tuple") (b := "tuple") (r := true) (by decide +kernel))
/-- the first thing that is wrong of what should be tales: -1 for no sequence -/
def toldE (d : PyData) : Option Int := if seqD d = false then some (-1) else (firstNo (itemsD d)).map fun k => ((k : Nat) : Int)
def SmT (d : PyData) : Prop := (itemsD d).length ≤ 1000 ∧ ∀ e ∈ itemsD d, Sm2 e
/-- the tales that are told: a sequence -/
def TalesX (H : Hp) (K : PySem.W.Frag) (v : V) (ts : List Tale) : Prop := ∃ a its, v = .ref a ∧ SqX K H a its ∧ All2 (TalH H) its ts
theorem TalesX.same {H H' : Hp} {K : PySem.W.Frag} {v : V} {ts : List Tale} (h : TalesX H K v ts) (s : Same H H') : TalesX H' K v ts := let ⟨a, its, e, x, al⟩ := h; ⟨a, its, e, sqxSame s x, al.imp fun _ _ r => r.same s⟩
def namesT (ts : List Tale) : List Str := ts.flatMap fun t => t.flatMap id
theorem wk_w {J : It} {a : Addr} {S : Hp → Prop} {xs : List V} (W : Wk J a S xs) (Pv : Nat → Hp → Prop) {H0 : Hp} {Done : Hp → Prop} {Body : V → Hp → (Hp → Prop) → Prop} (h0 : Pv 0 H0) (hS : ∀ i H, Pv i H → S H) (hs : ∀ i x H, xs[i]? = some x → Pv i H → Body x H (Pv (i + 1))) (hd : ∀ H, Pv xs.length H → Done H) :
    ∃ W : Nat → Nat → Hp → Prop, (∃ m, W 0 m H0) ∧ ∀ i m H, W i m H → (J.stop i H ∧ Done H) ∨ (J.go i H ∧ ∃ Nx : Hp → Prop, (∀ H', Nx H' → ∃ m', m' < m ∧ W (i + 1) m' H') ∧ ∀ x H', J.yld i H x H' → Body x H' Nx) := by
  refine ⟨fun i m H => m + i = xs.length ∧ Pv i H, ⟨xs.length, rfl, h0⟩, fun i m H ⟨e, p⟩ => ?_⟩
  cases m with
  | zero =>
    obtain rfl : i = xs.length := by omega
    exact .inl ⟨W.stop H (hS _ _ p), hd H p⟩
  | succ m =>
    have hi : i < xs.length := by omega
    refine .inr ⟨W.go i H hi (hS _ _ p), Pv (i + 1), fun H' p' => ⟨m, Nat.lt_succ_self m, by omega, p'⟩, fun v H' y => ?_⟩
    obtain ⟨rfl, ev⟩ := W.yld i H v H' hi (hS _ _ p) y
    exact hs i v H' ev p
theorem flat_take {α β : Type} (f : α → List β) (l : List α) {i : Nat} {x : α} (h : l[i]? = some x) : (l.take (i + 1)).flatMap f = (l.take i).flatMap f ++ f x := by
  rw [List.take_add_one, h, List.flatMap_append]
  show _ ++ [x].flatMap f = _
  rw [List.flatMap_singleton]
theorem flat_le {α β : Type} (f : α → List β) : ∀ (l : List α) (n : Nat), ((l.take n).flatMap f).length ≤ (l.flatMap f).length
  | l, n => by
    conv => rhs; rw [← List.take_append_drop n l]
    rw [List.flatMap_append, List.length_append]; omega
theorem str_at {ns : List Str} {i : Nat} {y : V} (ey : (ns.map V.str)[i]? = some y) : ∃ x, ns[i]? = some x ∧ y = .str x := by
  rw [List.getElem?_map] at ey
  cases c : ns[i]? with
  | none => rw [c] at ey; cases ey
  | some x => rw [c] at ey; exact ⟨x, rfl, (Option.some.inj ey).symm⟩
section
variable {P : Program} {w : World} {K : PySem.W.Frag} {mg : Str → Option Value} {base : Heap}
/-! ### is_sequence -/
abbrev s_is_sequence : Stmt := top 8
theorem sc_is_sequence : FnScope ["value"] ["value"] (defScope s_is_sequence) := ⟨rfl, rfl, rfl, by decide +kernel, rfl, by decide +kernel, by decide +kernel⟩
def spSeq (K : PySem.W.Frag) : Sp := fun vs H Q _ => ∃ (v : V) (d : PyData), vs = [v] ∧ Dp K H v d ∧ ∀ H', Same H H' → Q (.bl (seqD d)) H'
theorem ok_seq {f : Addr} {fd : FuncData} (F : Fun K "is_sequence" "is_sequence" s_is_sequence f fd) (n_isinstance : mg "isinstance" = none) (n_list : mg "list" = none) (n_tuple : mg "tuple" = none) : FnOk P w K mg base CX0 1 f fd ["value"] (spSeq K) := by
  refine F.ok sc_is_sequence (fun vs H Q E h => ?_) (fun cdv A outer s H vs Q E hr h => ?_)
  · obtain ⟨_, _, rfl, _⟩ := h
    rfl
  · obtain ⟨v, d, rfl, dv, q⟩ := h
    refine ⟨_, (pss_one (ps_ret (pe_callB call_isiT (by rfl) n_isinstance (by decide +kernel) (pa_cons (pv 0) (pa_cons (pe_tup (pa_cons (pe_bltn (v := .ty "list") (by rfl) n_list (by decide +kernel) rfl) (pa_cons (pe_bltn (v := .ty "tuple") (by rfl) n_tuple (by decide +kernel) rfl) pa_nil))) pa_nil))))), ?_⟩
    refine ⟨_, rfl, by show 2 ≤ sizeLine; decide, fun t ht => ?_⟩
    have s1 := same_new ht (.tup [V.ty "list", V.ty "tuple"])
    exact ⟨v, t, _, tyD d, _, seqD d, rfl, upd_same, .cons (.ty "list") (.cons (.ty "tuple") .nil), ty_dp (dp_same s1 dv), kit_seq dv, q _ s1⟩
/-! ### need_told -/
abbrev s_need_told : Stmt := top 24
theorem sc_need_told : FnScope ["tales"] ["tales"] (defScope s_need_told) := ⟨rfl, rfl, rfl, by decide +kernel, rfl, by decide +kernel, by decide +kernel⟩
def spNeedT (K : PySem.W.Frag) (C : Addr) : Sp := fun vs H Q E => ∃ (v : V) (d : PyData), vs = [v] ∧ Dp K H v d ∧ SmT d ∧ (toldE d = none → ∀ H', Same H H' → Q .non H') ∧
  ∀ k, toldE d = some k → ∀ dd H', Same H H' → H' dd = some (errH k) → E (.ref C) (some dd) H'
theorem ok_told {f fn C fI : Addr} {fd : FuncData} (F : Fun K "need_told" "need_told" s_need_told f fd) (N : FnR P w K mg base (L2.CX P w) 4 fn (spNeedR K C)) (gN : mg "need_tales" = some (.ref fn)) (kN : PySem.W.keepIn K (.ref fn) = true) (T : ErrC K mg "InvalidHeard" C fI) (C_is_sequence : Cl P w K mg base "is_sequence" ["value"] [] 1 (spSeq K)) : FnOk P w K mg base (L2.CX P w) 5 f fd ["tales"] (spNeedT K C) := by
  refine F.okX sc_need_told (fun vs H Q E h => ?_) (fun cdv A outer s H vs Q E hr h => ?_)
  · obtain ⟨_, _, rfl, _⟩ := h
    rfl
  · obtain ⟨v, d, rfl, dv, sm, q, qe⟩ := h
    refine ⟨_, (Evl.pss_cut (ps_if (pt_not (pt_val (pe_use C_is_sequence (hr.mono (by decide)) rfl (pa_cons (pv 0) pa_nil)))) (pss_one (ps_raiseAt rfl T hr (takes_of rfl rfl rfl rfl) (pa_cons (pe_un un_neg pe_int) pa_nil) rfl)) pss_nil)
    (pss_one (ps_expr (StX.pe_callS1 N (hr.mono (by decide)) kN rfl gN (passes_call (takes_of rfl rfl rfl rfl) (fun _ _ _ _ h => h)) (pv 0))))), ?_⟩
    refine ⟨fun σ H' => σ = [some v] ∧ Same H H' ∧ seqD d = true, ?_, ?_⟩
    · refine ⟨_, rfl, v, d, rfl, dv, fun H1 s1 => ⟨_, rfl, ?_⟩⟩
      cases c : seqD d with
      | true => exact iteF ⟨rfl, s1, rfl⟩
      | false =>
        refine iteT ⟨_, rfl, _, rfl, fun dd hn => ?_⟩
        refine qe (-1) ?_ dd _ (s1.trans (same_new hn _)) upd_same
        unfold toldE
        rw [if_pos c]
    rintro σ H1 ⟨rfl, s1, c⟩
    obtain ⟨a, its, rfl, hx, al⟩ : ∃ a its, v = .ref a ∧ (SqT K H1 a its ∨ SqL K H1 a its) ∧ All2 (Dp K H1) its (itemsD d) := by
      cases dp_same s1 dv with
      | lst h a => exact ⟨_, _, rfl, .inr h, dpa_all a⟩
      | tup h a => exact ⟨_, _, rfl, .inl h, dpa_all a⟩
      | non => cases c
      | bl b => cases c
      | int i => cases c
      | str x => cases c
    have e : toldE d = (firstNo (itemsD d)).map fun k => ((k : Nat) : Int) := by
      unfold toldE
      rw [if_neg (by rw [c]; decide)]
    have li := al.len
    have l1 := sm.1
    refine ⟨_, rfl, a, its, rfl, hx, [], its, rfl, rfl, by rw [sizeLine_eq]; omega, fun p hp => ?_⟩
    have s2 := same_new hp (.tup its)
    refine ⟨p, its, itemsD d, rfl, upd_same, al.imp fun _ _ r => dp_same s2 r, sm.1, sm.2, fun no H3 s3 => ?_, fun k hk dd H3 s3 ed => ?_⟩
    · exact q (by rw [e, no]; rfl) _ ((s1.trans s2).trans s3)
    · exact qe (k : Nat) (by rw [e, hk]; rfl) dd _ ((s1.trans s2).trans s3) ed
/-! ### bells_of -/
abbrev s_bells_of : Stmt := top 25
theorem sc_bells_of : FnScope ["tales", "tale", "lot", "name"] ["tales"] (defScope s_bells_of) := ⟨rfl, rfl, rfl, by decide +kernel, rfl, by decide +kernel, by decide +kernel⟩
def spBells (K : PySem.W.Frag) (C : Addr) : Sp := fun vs H Q E => ∃ (v : V) (d : PyData) (ts : List Tale), vs = [v] ∧ Dp K H v d ∧ SmT d ∧ (toldE d = none → TalesX H K v ts) ∧ (namesT ts).length ≤ 1000 ∧ (toldE d = none → ∀ p H', Same H H' → H' p = some (.tup ((lotS (namesT ts)).map V.str)) → Q (.ref p) H') ∧
  ∀ k, toldE d = some k → ∀ dd H', Same H H' → H' dd = some (errH k) → E (.ref C) (some dd) H'
theorem ok_bells {f C : Addr} {fd : FuncData} (F : Fun K "bells_of" "bells_of" s_bells_of f fd) (C_as_lot : Cl P w K mg base "as_lot" ["values"] [] 1 (spLot K)) (C_need_told : Cx_ P w K mg base "need_told" ["tales"] 5 (spNeedT K C)) : FnOk P w K mg base (L2.CX P w) 6 f fd ["tales"] (spBells K C) := by
  refine F.okX sc_bells_of (fun vs H Q E h => ?_) (fun cdv A outer s H vs Q E hr h => ?_)
  · obtain ⟨_, _, _, rfl, _⟩ := h
    rfl
  · obtain ⟨v, d, ts, rfl, dv, sm, tx, nl, q, qe⟩ := h
    refine ⟨_, (pss_cons (ps_expr (pe_useX C_need_told (hr.mono (by decide)) (fun σ => passAt (takes_of rfl rfl rfl rfl) σ) rfl (pa_cons (pv 0) pa_nil)))
    (pss_one (ps_ret (pe_use C_as_lot (hr.mono (by decide)) rfl (pa_cons (pe_lc3 (own := [("tale", 1), ("lot", 2), ("name", 3)]) (vs1 := [2, 3]) (vs2 := [3]) (g := gName 1) (g1 := gName 2) (g2 := gName 3) (wi1 := iSeq K (tVar 1)) (wi2 := iSeq K (tVar 2)) rfl sc_bells_of.nd (pi_seq (pv 0)) (blkOk_by (N := ["tales", "tale", "lot", "name"]) (sc := defScope s_bells_of) (by decide +kernel)) (by decide) (by decide)
      (fun _ _ _ _ _ => pg_name (i := 1) sc_bells_of.nd rfl (Or.inl rfl)) (fun _ _ _ _ _ => pts_nil) (fun _ _ _ _ _ => by exact pi_seq (pv 1)) (fun _ _ _ _ _ => pg_name (i := 2) sc_bells_of.nd rfl (Or.inl rfl)) (fun _ _ _ _ _ => pts_nil) (fun _ _ _ _ _ => by exact pi_seq (pv 2)) (fun _ _ _ _ _ => pg_name (i := 3) sc_bells_of.nd rfl (Or.inl rfl)) (fun _ _ _ _ _ => pts_nil) (fun _ _ _ _ _ => pv 3)) pa_nil))))), ?_⟩
    refine ⟨_, rfl, v, d, rfl, dv, sm, fun no H1 s1 => ?_, fun k hk dd H1 s1 ed => qe k hk dd H1 s1 ed⟩
    obtain ⟨a, its, rfl, hx, al⟩ := (tx no).same s1
    refine ⟨_, rfl, a, its, rfl, hx, fun J S Wk0 z0 D hD => ?_⟩
    have el0 : upd H1 D (.lst []) D = some (.lst []) := upd_same
    refine wk_w Wk0 (fun i H' => Same H1 H' ∧ H' D = some (.lst ((namesT (ts.take i)).map V.str))) ⟨same_new hD _, el0⟩ (fun i H' p => Wk0.keep (fun o e => p.1 _ _ e) z0) ?_ ?_
    · rintro i x H2 ex ⟨s2, e2⟩
      obtain ⟨t, et, tb, jts, rfl, etb, blt⟩ := al.get ex
      have e3 : namesT (ts.take (i + 1)) = namesT (ts.take i) ++ t.flatMap id := flat_take _ ts et
      refine ⟨rfl, _, rfl, tb, jts, rfl, SqX.tup (s2 _ _ etb), fun J1 S1 Wk1 z1 => ?_⟩
      refine wk_w Wk1 (fun j H' => Same H1 H' ∧ H' tb = some (.tup jts) ∧ H' D = some (.lst ((namesT (ts.take i) ++ (t.take j).flatMap id).map V.str))) ⟨s2, s2 _ _ etb, by simpa using e2⟩ (fun j H' p => Wk1.keep (fun o e => by rw [s2 _ _ etb] at e; cases e; exact p.2.1) z1) ?_ ?_
      · rintro j y H3 ey ⟨s3, et3, e4⟩
        obtain ⟨l, el, lb, rfl, elb⟩ := blt.get ey
        have e5 : (t.take (j + 1)).flatMap id = (t.take j).flatMap id ++ l := flat_take id t el
        refine ⟨rfl, _, rfl, lb, _, rfl, SqX.tup (s3 _ _ elb), fun J2 S2 Wk2 z2 => ?_⟩
        refine wk_w Wk2 (fun k H' => Same H1 H' ∧ H' lb = some (.tup (l.map V.str)) ∧ H' tb = some (.tup jts) ∧ H' D = some (.lst ((namesT (ts.take i) ++ ((t.take j).flatMap id ++ l.take k)).map V.str))) ⟨s3, s3 _ _ elb, et3, by simpa using e4⟩ (fun k H' p => Wk2.keep (fun o e => by rw [s3 _ _ elb] at e; cases e; exact p.2.1) z2) ?_ ?_
        · rintro k z H4 ez ⟨s4, eb4, et4, e6⟩
          obtain ⟨nm, enm, rfl⟩ := str_at ez
          have ln : (namesT (ts.take i) ++ ((t.take j).flatMap id ++ l.take k)).length ≤ 1000 := by
            have h1 : (namesT (ts.take (i + 1))).length ≤ (namesT ts).length := flat_le _ ts (i + 1)
            have h2 := flat_le id t (j + 1)
            rw [e3, List.length_append] at h1
            rw [e5, List.length_append] at h2
            rw [List.length_append, List.length_append, List.length_take]
            omega
          refine ⟨rfl, _, rfl, _, e6, by rw [List.length_map, sizeLine_eq]; omega, ?_⟩
          have nb : ∀ b o, H4 b = some o → (∀ ys, o ≠ .lst ys) → upd H4 D (.lst ((namesT (ts.take i) ++ ((t.take j).flatMap id ++ l.take k)).map V.str ++ [.str nm])) b = some o := fun b o e n => by
            rw [upd_ne fun q => by rw [q, e6] at e; exact n _ (Option.some.inj e).symm]; exact e
          refine ⟨fun b o e => ?_, nb _ _ eb4 (fun ys z => by cases z), nb _ _ et4 (fun ys z => by cases z), ?_⟩
          · rw [upd_ne (ne_of_none e hD)]; exact s4 b o e
          · rw [upd_same, List.take_add_one, enm]
            simp
        · rintro H4 ⟨s4, eb4, et4, e6⟩
          refine ⟨s4, et4, ?_⟩
          rw [List.length_map, List.take_length] at e6
          rw [e6, e5]
      · rintro H3 ⟨s3, et3, e4⟩
        rw [blt.len, List.take_length] at e4
        exact ⟨s3, by rw [e4, e3]⟩
    · rintro H2 ⟨s2, e2⟩
      rw [al.len, List.take_length] at e2
      exact ⟨D, rfl, .inl ⟨namesT ts, SqX.lst e2, nl, fun p H3 s3 e3 => q no p H3 ((s1.trans s2).trans s3) e3⟩⟩
end
end K6

namespace K6
open PySem PySem.Spec PyProof.Rows L2 Hb St Sq Ow En Zp RZ Rd Xb Da Lo
/-! ### sorted of a list whose items stand for things -/
theorem zip_fst {α β : Type} {R : α → β → Prop} {as : List α} {bs : List β} (h : All2 R as bs) : (as.zip bs).map (·.1) = as := by
  induction h with
  | nil => rfl
  | cons _ _ ih => simpa using ih
theorem zip_snd {α β : Type} {R : α → β → Prop} {as : List α} {bs : List β} (h : All2 R as bs) : (as.zip bs).map (·.2) = bs := by
  induction h with
  | nil => rfl
  | cons _ _ ih => simpa using ih
theorem zip_mem {α β : Type} {R : α → β → Prop} {as : List α} {bs : List β} (h : All2 R as bs) : ∀ z ∈ as.zip bs, R z.1 z.2 ∧ z.2 ∈ bs := by
  induction h with
  | nil => intro z hz; cases hz
  | cons r _ ih =>
    intro z hz
    rw [List.zip_cons_cons] at hz
    rcases List.mem_cons.mp hz with rfl | hz
    · exact ⟨r, List.mem_cons_self ..⟩
    · exact ⟨(ih z hz).1, List.mem_cons_of_mem _ (ih z hz).2⟩
theorem all2_maps {α β γ : Type} {R : α → β → Prop} {f : γ → α} {g : γ → β} : ∀ {zs : List γ}, (∀ z ∈ zs, R (f z) (g z)) → All2 R (zs.map f) (zs.map g)
  | [], _ => .nil
  | z :: zs, h => .cons (h z (List.mem_cons_self ..)) (all2_maps fun y hy => h y (List.mem_cons_of_mem _ hy))
theorem srt_pairs {γ : Type} {enc : γ → PyData} {R : V → γ → Prop} {its : List V} {gs : List γ} (al : All2 R its gs) : All2 R ((((its.zip gs).map fun z => (z.1, enc z.2)).mergeSort (PySem.W.dataLe false (·.2))).map (·.1)) (gs.mergeSort (PySem.W.dataLe false enc)) := by
  let f : V × γ → V × PyData := fun z => (z.1, enc z.2)
  let r : V × γ → V × γ → Bool := fun a b => PySem.W.dataLe false enc a.2 b.2
  have m1 : ((its.zip gs).map f).mergeSort (PySem.W.dataLe false (·.2)) = ((its.zip gs).mergeSort r).map f := (List.map_mergeSort (f := f) (r := r) fun a _ b _ => rfl).symm
  have m2 : gs.mergeSort (PySem.W.dataLe false enc) = ((its.zip gs).mergeSort r).map (·.2) := by
    conv => lhs; rw [← zip_snd al]
    exact (List.map_mergeSort (f := fun z : V × γ => z.2) (r := r) fun a _ b _ => rfl).symm
  rw [m1, m2, List.map_map]
  exact all2_maps fun z hz => (zip_mem al z ((List.mergeSort_perm _ _).mem_iff.mp hz)).1
theorem sort_all {γ : Type} {enc : γ → PyData} {R : V → γ → Prop} {K : PySem.W.Frag} {H : Hp} {a : Addr} {its : List V} {gs : List γ} {Q : VK} (e : H a = some (.lst its)) (al : All2 R its gs) (dp : ∀ v g, R v g → Dp K H v (enc g)) (dep : ∀ g ∈ gs, (enc g).depth ≤ 20)
    (alk : ∀ x y, PySem.W.alike (enc x) (enc y) = true) (hk : PySem.W.Sortable (gs.map enc) ∨ PySem.W.Tup0 (gs.map enc)) (q : ∀ p its' H', Same H H' → H' p = some (.lst its') → All2 R its' (gs.mergeSort (PySem.W.dataLe false enc)) → Q (.ref p) H') : rSortD K [.ref a] H Q := by
  let f : V × γ → V × PyData := fun z => (z.1, enc z.2)
  have e1 : ((its.zip gs).map f).map (·.1) = its := by rw [List.map_map]; exact zip_fst al
  have e2 : ((its.zip gs).map f).map (·.2) = gs.map enc := by
    rw [List.map_map]
    conv => rhs; rw [← zip_snd al]
    rw [List.map_map]; rfl
  refine ⟨a, (its.zip gs).map f, rfl, SqL.of (by rw [e1]; exact e), fun b hb => ?_, ?_, by rw [e2]; exact hk, fun p hp => ?_⟩
  · obtain ⟨z, hz, rfl⟩ := List.mem_map.mp hb
    obtain ⟨r, m⟩ := zip_mem al z hz
    exact ⟨dp _ _ r, dep _ m⟩
  · rw [e2]
    intro d hd d' hd'
    obtain ⟨x, _, rfl⟩ := List.mem_map.mp hd
    obtain ⟨y, _, rfl⟩ := List.mem_map.mp hd'
    exact alk x y
  · exact q p _ _ (same_new hp _) upd_same (srt_pairs al)
/-- a list of lots -/
def LosH (H : Hp) (a : Addr) (ls : List Lot) : Prop := ∃ its, H a = some (.lst its) ∧ All2 (LotH H) its ls
theorem LosH.same {H H' : Hp} {a : Addr} {ls : List Lot} (h : LosH H a ls) (s : Same H H') : LosH H' a ls := let ⟨its, e, al⟩ := h; ⟨its, s _ _ e, al.imp fun _ _ r => r.same s⟩
theorem dep_lD (l : Lot) : (lD l).depth ≤ 20 := by
  have : ∀ l : List Str, PyData.depthAll (l.map PyData.str) = 0 := fun l => by
    induction l with
    | nil => rfl
    | cons x r ih =>
      show max (PyData.depth (.str x)) (PyData.depthAll (r.map .str)) = 0
      rw [ih]; rfl
  show PyData.depthAll (l.map PyData.str) + 1 ≤ 20
  rw [this]; decide
theorem dep_kD (l : Lot) : (kD l).depth ≤ 20 := by
  have h := dep_lD l
  have : ∀ l : List Str, PyData.depthAll (l.map PyData.str) = 0 := fun l => by
    induction l with
    | nil => rfl
    | cons x r ih =>
      show max (PyData.depth (.str x)) (PyData.depthAll (r.map .str)) = 0
      rw [ih]; rfl
  show max 0 (max (PyData.depthAll (l.map PyData.str) + 1) 0) + 1 ≤ 20
  rw [this]; decide
theorem foldl_take {α β : Type} (f : β → α → β) (b : β) (l : List α) {i : Nat} {x : α} (h : l[i]? = some x) : (l.take (i + 1)).foldl f b = f ((l.take i).foldl f b) x := by
  rw [List.take_add_one, h, List.foldl_append]; rfl
theorem tup0_lots {ls : List Lot} (h : ∃ r, ls = [] :: r) : PySem.W.Tup0 (ls.map lD) := by
  obtain ⟨r, rfl⟩ := h
  refine ⟨fun d hd => ?_, r.map lD, rfl⟩
  obtain ⟨z, _, rfl⟩ := List.mem_map.mp hd
  exact ⟨_, rfl⟩
theorem LL_small {ns : List Str} (h : ns.length ≤ 4) : ∀ i, ((ns.take i).foldl growP [[]]).length ≤ 16 := fun i => by
  have := growP_len (ns.take i) [[]]
  have h2 : 2 ^ (ns.take i).length ≤ 2 ^ 4 := Nat.pow_le_pow_right (by decide) (by rw [List.length_take]; omega)
  rw [this]
  simpa using h2
section
variable {P : Program} {w : World} {K : PySem.W.Frag} {mg : Str → Option Value} {base : Heap}
/-! ### lots_among -/
abbrev s_lots_among : Stmt := top 22
theorem sc_lots_among : FnScope ["bells", "lots", "name", "lot"] ["bells"] (defScope s_lots_among) := ⟨rfl, rfl, rfl, by decide +kernel, rfl, by decide +kernel, by decide +kernel⟩
def spAmong (K : PySem.W.Frag) : Sp := fun vs H Q _ => ∃ (a : Addr) (ns : List Str), vs = [.ref a] ∧ SqX K H a (ns.map V.str) ∧ ns.length ≤ 4 ∧ ∀ p H', Same H H' → LosH H' p (LA ns) → Q (.ref p) H'
theorem ok_among {f : Addr} {fd : FuncData} (F : Fun K "lots_among" "lots_among" s_lots_among f fd) (C_as_lot : Cl P w K mg base "as_lot" ["values"] [] 1 (spLot K)) (n_sorted : mg "sorted" = none) : FnOk P w K mg base CX0 2 f fd ["bells"] (spAmong K) := by
  refine F.ok sc_lots_among (fun vs H Q E h => ?_) (fun cdv A outer s H vs Q E hr h => ?_)
  · obtain ⟨_, _, rfl, _⟩ := h
    rfl
  · obtain ⟨a, ns, rfl, ha, hl, q⟩ := h
    refine ⟨_, (pss_cons (ps_set (i := 1) sc_lots_among.nd rfl (Or.inl rfl) (pe_lst (pa_cons (pe_tup pa_nil) pa_nil)))
    (Evl.pss_cut (ps_for PassesOwn.never rfl (pi_seq (pe_use C_as_lot (hr.mono (by decide)) rfl (pa_cons (pv 0) pa_nil))) (pg_name (i := 2) sc_lots_among.nd rfl (Or.inr rfl))
      (pss_one (ps_set (i := 1) sc_lots_among.nd rfl (Or.inl rfl) (pe_op op_cat (pv 1) (pe_lc (own := [("lot", 3)]) (g := gName 3) rfl sc_lots_among.nd (pi_seq (pv 1)) (blkOk_by (N := ["bells", "lots", "name", "lot"]) (sc := defScope s_lots_among) (by decide +kernel)) (fun _ _ _ _ _ => pg_name (i := 3) sc_lots_among.nd rfl (Or.inl rfl)) (fun _ _ _ _ _ => pts_nil) (fun _ _ _ _ _ => pe_op (r := rCatA K) op_catA (pv 3) (pe_tup (pa_cons (pv 2) pa_nil))))))))
    (pss_one (ps_ret (pe_slice (r := rSlL K) sl_list (pe_callB (cr_sortD hr.units) (by rfl) n_sorted (by decide +kernel) (pa_cons (pv 1) pa_nil)) (po_some pe_int) po_none))))), ?_⟩
    refine ⟨by show 0 ≤ sizeLine; decide, fun t kt => ⟨by show 1 ≤ sizeLine; decide, fun lp kl => ?_⟩⟩
    have a0 := same_new kt (.tup [])
    have a1 := same_new kl (.lst [.ref t])
    have et := a1 _ _ (show (upd H t (.tup [])) t = _ from upd_same)
    have el : upd (upd H t (.tup [])) lp (.lst [.ref t]) lp = some (.lst [.ref t]) := upd_same
    have s1 : Same H (upd (upd H t (.tup [])) lp (.lst [.ref t])) := a0.trans a1
    generalize upd (upd H t (.tup [])) lp (.lst [.ref t]) = H1 at et el s1 ⊢
    have l4 := len_lotS ns
    refine ⟨fun σ H' => ∃ lp o2 o3, σ = [some (.ref a), some (.ref lp), o2, o3] ∧ Same H H' ∧ LosH H' lp (LL (lotS ns)), ?_, ?_⟩
    · refine ⟨_, rfl, a, rfl, .inl ⟨ns, sqxSame s1 ha, by omega, fun np H2 s2 en => ⟨np, _, rfl, SqX.tup en, fun J S Wk s0 => ?_⟩⟩⟩
      refine for_sq Wk (fun i σ H' => ∃ lp o2 o3, σ = [some (.ref a), some (.ref lp), o2, o3] ∧ Same H2 H' ∧ ∃ its, H' lp = some (.lst its) ∧ All2 (fun v l => LotH H' v l ∧ l.length ≤ i) its (((lotS ns).take i).foldl growP [[]]))
        ⟨lp, none, none, rfl, Same.refl _, [.ref t], s2 _ _ el, .cons ⟨⟨t, rfl, s2 _ _ et⟩, Nat.zero_le _⟩ .nil⟩ (fun i σ H' p => Wk.keep (fun o e => let ⟨_, _, _, _, s, _⟩ := p; s _ _ e) s0) ?_ ?_
      · rintro i σ H3 y ey ⟨lp, o2, o3, rfl, s3, its, eit, al⟩
        obtain ⟨x, ex, rfl⟩ := str_at ey
        have hi : i < (lotS ns).length := (List.getElem?_eq_some_iff.mp ex).1
        have len1 := LL_small (show (lotS ns).length ≤ 4 by omega) i
        refine ⟨_, rfl, _, rfl, lp, its, rfl, SqX.lst eit, fun J2 S2 W2 z2 D hD => ?_⟩
        refine lc_mf (ds := ((lotS ns).take i).foldl growP [[]]) W2 (fun _ => true) (fun H' y d => LotH H' y (d ++ [x]) ∧ (d ++ [x]).length ≤ i + 1) z2 hD al.len (fun j y d H' ey ed s m => ?_) (fun H4 ys s4 e4 al4 => ?_)
        · obtain ⟨d', ed', hd, ld⟩ := al.get ey
          obtain rfl : d' = d := Option.some.inj (ed'.symm.trans ed)
          refine ⟨rfl, _, rfl, _, rfl, by show 1 ≤ sizeLine; decide, fun t1 k1 => ?_⟩
          have u1 := same_new k1 (.tup [V.str x])
          obtain ⟨db, rfl, edb⟩ := (hd.same s).same u1
          refine rd_catT edb upd_same (by rw [List.length_map]; show _ + 1 ≤ _; omega) fun b H5 s5 hb => ?_
          refine mf_yes m hD (fun _ _ _ _ f h => ⟨h.1.fix f, h.2⟩) ed (by omega) (u1.trans s5) rfl ⟨⟨b, rfl, ?_⟩, ?_⟩
          · rw [List.map_append]; exact hb
          · rw [List.length_append]; show _ + 1 ≤ _; omega
        · rw [Rd.filter_all] at al4
          have e5 := s4 _ _ eit
          have l6 := al.len
          have l7 := al4.len
          refine ⟨lp, D, its, ys, rfl, rfl, e5, e4, by rw [sizeLine_eq]; omega, fun np2 k5 => ?_⟩
          have s5 := same_new k5 (.lst (its ++ ys))
          refine ⟨np2, some (.str x), o3, rfl, (s3.trans s4).trans s5, its ++ ys, upd_same, ?_⟩
          rw [foldl_take growP _ _ ex]
          unfold growP
          refine All2.app (al.imp fun _ _ h => ⟨h.1.same (s4.trans s5), by have := h.2; omega⟩) ?_
          exact (Sq.All2.of_mapR (f := fun d => d ++ [x]) (R := fun v l => LotH _ v l ∧ l.length ≤ i + 1) al4).imp fun _ _ h => ⟨h.1.same s5, h.2⟩
      · rintro σ H3 ⟨lp, o2, o3, rfl, s3, its, eit, al⟩
        rw [List.length_map, List.take_length] at al
        exact ⟨lp, o2, o3, rfl, (s1.trans s2).trans s3, its, eit, al.imp fun _ _ h => h.1⟩
    rintro σ H2 ⟨lp, o2, o3, rfl, s2, its, eit, al⟩
    refine ⟨_, rfl, ?_⟩
    show rSortD K [.ref lp] H2 fun x H1 => ∃ i, V.int 1 = .int i ∧ rSlL K x (some i) none H1 Q
    refine sort_all (enc := lD) eit al (fun _ _ r => r.dp) (fun g _ => dep_lD g) alike_lD (.inr (tup0_lots (growP_head (lotS ns) [[]] ⟨[], rfl⟩))) fun p its3 H3 s3 e3 al3 => ?_
    have al3 : All2 (LotH H2) its3 ([] :: LA ns) := by rw [← LA_prog]; exact al3
    cases al3 with
    | @cons v _ vs _ h1 h2 =>
      refine ⟨1, rfl, p, _, rfl, SqL.of e3, fun p2 k2 => ?_⟩
      rw [Rd.cut1]
      have s4 := same_new k2 (.lst vs)
      exact q p2 _ ((s2.trans s3).trans s4) ⟨vs, upd_same, h2.imp fun _ _ h => (h.same s3).same s4⟩
/-! ### ordered_lots -/
abbrev s_ordered_lots : Stmt := top 26
theorem sc_ordered_lots : FnScope ["names", "placed", "_", "lot"] ["names"] (defScope s_ordered_lots) := ⟨rfl, rfl, rfl, by decide +kernel, rfl, by decide +kernel, by decide +kernel⟩
def spOrd (K : PySem.W.Frag) : Sp := fun vs H Q _ => ∃ (a : Addr) (ns : List Str), vs = [.ref a] ∧ SqX K H a (ns.map V.str) ∧ ns.length ≤ 4 ∧ ∀ p H', Same H H' → LosH H' p (OL ns) → Q (.ref p) H'
/-- (how many, lot) -/
def KeyH (H : Hp) (v : V) (l : Lot) : Prop := ∃ b lv, v = .ref b ∧ H b = some (.tup [.int (l.length : Nat), lv]) ∧ LotH H lv l
theorem KeyH.on {H H' : Hp} {v : V} {l : Lot} (h : KeyH H v l) (k : TupK H H') : KeyH H' v l := let ⟨b, lv, e, t, r⟩ := h; ⟨b, lv, e, k _ _ t, r.on k⟩
theorem KeyH.dp {K : PySem.W.Frag} {H : Hp} {v : V} {l : Lot} (h : KeyH H v l) : Dp K H v (kD l) := let ⟨_, _, e, t, r⟩ := h; e ▸ .tup (SqT.of t) (.cons (.int _) (.cons r.dp .nil))
theorem ok_ord {f : Addr} {fd : FuncData} (F : Fun K "ordered_lots" "ordered_lots" s_ordered_lots f fd) (C_lots_among : Cl P w K mg base "lots_among" ["bells"] [] 2 (spAmong K)) (n_len : mg "len" = none) (n_sorted : mg "sorted" = none) : FnOk P w K mg base CX0 3 f fd ["names"] (spOrd K) := by
  refine F.ok sc_ordered_lots (fun vs H Q E h => ?_) (fun cdv A outer s H vs Q E hr h => ?_)
  · obtain ⟨_, _, rfl, _⟩ := h
    rfl
  · obtain ⟨a, ns, rfl, ha, hl, q⟩ := h
    refine ⟨_, (pss_cons (ps_set (i := 1) sc_ordered_lots.nd rfl (Or.inl rfl) (pe_callB (cr_sortD hr.units) (by rfl) n_sorted (by decide +kernel) (pa_cons (pe_lc (own := [("lot", 3)]) (g := gName 3) rfl sc_ordered_lots.nd (pi_seq (pe_op op_cat (pe_lst (pa_cons (pe_tup pa_nil) pa_nil)) (pe_use C_lots_among (hr.mono (by decide)) rfl (pa_cons (pv 0) pa_nil)))) (blkOk_by (N := ["names", "placed", "_", "lot"]) (sc := defScope s_ordered_lots) (by decide +kernel)) (fun _ _ _ _ _ => pg_name (i := 3) sc_ordered_lots.nd rfl (Or.inl rfl)) (fun _ _ _ _ _ => pts_nil) (fun _ _ _ _ _ => pe_tup (pa_cons (pe_callB (id := "len") (r := rLenK K) call_len_seq (by rfl) n_len PySem.boot_len (pa_cons (pv 3) pa_nil)) (pa_cons (pv 3) pa_nil)))) pa_nil)))
    (pss_one (ps_ret (pe_lc (own := [("_", 2), ("lot", 3)]) (g := gTup K 2 (gCons (gName 2) (gCons (gName 3) gNil))) rfl sc_ordered_lots.nd (pi_seq (pv 1)) (blkOk_by (N := ["names", "placed", "_", "lot"]) (sc := defScope s_ordered_lots) (by decide +kernel)) (fun _ _ _ _ _ => pg_tup rfl (pgs_cons (pg_name (i := 2) sc_ordered_lots.nd rfl (Or.inl rfl)) (pgs_cons (pg_name (i := 3) sc_ordered_lots.nd rfl (Or.inl rfl)) pgs_nil))) (fun _ _ _ _ _ => pts_nil) (fun _ _ _ _ _ => pv 3))))), ?_⟩
    have l4 := len_lotS ns
    have lA : (LA ns).length ≤ 16 := by
      have := congrArg List.length (LA_prog ns)
      rw [List.length_mergeSort, List.length_cons] at this
      have := LL_len (show (lotS ns).length ≤ 4 by omega)
      omega
    refine ⟨by show 0 ≤ sizeLine; decide, fun t kt => ⟨by show 1 ≤ sizeLine; decide, fun lp kl => ?_⟩⟩
    have a0 := same_new kt (.tup [])
    have a1 := same_new kl (.lst [.ref t])
    have et := a1 _ _ (show (upd H t (.tup [])) t = _ from upd_same)
    have el : upd (upd H t (.tup [])) lp (.lst [.ref t]) lp = some (.lst [.ref t]) := upd_same
    have s1 : Same H (upd (upd H t (.tup [])) lp (.lst [.ref t])) := a0.trans a1
    generalize upd (upd H t (.tup [])) lp (.lst [.ref t]) = H1 at et el s1 ⊢
    refine ⟨_, rfl, a, ns, rfl, sqxSame s1 ha, hl, fun g H2 s2 ⟨gits, eg, ag⟩ => ?_⟩
    have lg := ag.len
    refine ⟨lp, g, _, gits, rfl, rfl, s2 _ _ el, eg, by rw [sizeLine_eq]; show 1 + _ ≤ _; omega, fun cp kc => ?_⟩
    have s3 := same_new kc (.lst ([V.ref t] ++ gits))
    have ec : upd H2 cp (.lst ([V.ref t] ++ gits)) cp = some (.lst (V.ref t :: gits)) := upd_same
    have al0 : All2 (LotH (upd H2 cp (.lst ([V.ref t] ++ gits)))) (V.ref t :: gits) ([] :: LA ns) := .cons ⟨t, rfl, s3 _ _ (s2 _ _ et)⟩ (ag.imp fun _ _ r => r.same s3)
    generalize upd H2 cp (.lst ([V.ref t] ++ gits)) = H3 at s3 ec al0 ⊢
    have s13 := (s1.trans s2).trans s3
    refine ⟨cp, _, rfl, SqX.lst ec, fun J S Wk0 z0 D hD => ?_⟩
    refine lc_mf (ds := [] :: LA ns) Wk0 (fun _ => true) KeyH z0 hD al0.len (fun i y l H' ey el s m => ?_) (fun H4 ys s4 e4 al4 => ?_)
    · obtain ⟨l', el', hl'⟩ := al0.get ey
      obtain rfl : l' = l := Option.some.inj (el'.symm.trans el)
      obtain ⟨lb, rfl, elb⟩ := hl'.same s
      refine ⟨rfl, _, rfl, lb, _, rfl, .inr (SqT.of elb), _, rfl, by show 2 ≤ sizeLine; decide, fun p hp => ?_⟩
      have s5 := same_new hp (.tup [V.int ((l'.map V.str).length : Nat), .ref lb])
      refine mf_yes m hD (fun _ _ _ _ f h => h.on (.fix f)) el (by rw [List.length_cons]; omega) s5 rfl ⟨p, .ref lb, rfl, ?_, ⟨lb, rfl, s5 _ _ elb⟩⟩
      rw [upd_same, List.length_map]
    rw [Rd.filter_all] at al4
    dsimp only [tNil]
    refine sort_all (enc := kD) e4 al4 (fun _ _ r => r.dp) (fun g _ => dep_kD g) alike_kD (.inl (PySem.W.Sortable.tuples fun l => ⟨_, _, rfl⟩)) fun p its5 H5 s5 e5 al5 => ?_
    have al5 : All2 (KeyH H5) its5 (OL ns) := by rw [← OL_prog]; exact al5.imp fun _ _ r => r.on (.same s5)
    have lo : (OL ns).length ≤ 16 := by rw [← OL_prog, List.length_mergeSort, List.length_cons]; have := congrArg List.length (LA_prog ns); rw [List.length_mergeSort, List.length_cons] at this; have := LL_len (show (lotS ns).length ≤ 4 by omega); omega
    refine ⟨_, rfl, p, _, rfl, SqX.lst e5, fun J S Wk0 z0 D hD => ?_⟩
    refine lc_mf (ds := OL ns) Wk0 (fun _ => true) LotH z0 hD al5.len (fun i y l H' ey el s m => ?_) (fun H6 ys s6 e6 al6 => ?_)
    · obtain ⟨l', el', b, lv, rfl, eb, hlv⟩ := al5.get ey
      obtain rfl : l' = l := Option.some.inj (el'.symm.trans el)
      refine ⟨b, _, rfl, SqT.of (s _ _ eb), rfl, _, _, rfl, _, _, rfl, rfl, rfl, _, rfl, ?_⟩
      exact mf_yes m hD (fun _ _ _ _ f h => h.fix f) el (by omega) (Same.refl _) rfl (hlv.same s)
    rw [Rd.filter_all] at al6
    exact q D H6 (((s13.trans s4).trans s5).trans s6) ⟨ys, e6, al6⟩
end
end K6

namespace K6
open PySem PySem.Spec PyProof.Rows L2 Hb St Sq Ow En Zp RZ Rd Xb Da Lo Cq
theorem passF {X : Cx} {σ : L2.St} : PassesAt (L2.CX X.prog X.w) X σ (fun _ _ _ => False) := fun _ _ _ _ _ _ ⟨_, _, _, _, _, _, _, _, _, _, _, _, z⟩ => z.elim
theorem Cl.up {P : Program} {w : World} {K : PySem.W.Frag} {mg : Str → Option Value} {b b' : Heap} {x : Str} {ps : List Str} {dvs : List V} {lv : Nat} {sp : Sp} (C : Cl P w K mg b x ps dvs lv sp) (le : LeB K mg b b') : Cl P w K mg b' x ps dvs lv sp := by
  obtain ⟨f, fd, ds, F, r⟩ := C.ex
  exact ⟨f, fd, ds, FnOk.up F le, r⟩
theorem LosH.kept {H H' : Hp} {a p : Addr} {ls : List Lot} (h : LosH H a ls) (n : a ≠ p) (k : Kept p H H') (t : TupK H H') : LosH H' a ls := let ⟨its, e, al⟩ := h; ⟨its, k _ _ e n, al.imp fun _ _ r => r.on t⟩
theorem keepF_len {α : Type} [DecidableEq α] {R : α → α → Bool} {p : α → Bool} (L : List α) : (keepF R p L).length ≤ L.length := by
  have : ∀ r : List α, (keepF R p r.reverse).length ≤ r.length := fun r => by
    induction r with
    | nil => exact Nat.le_refl _
    | cons a r ih =>
      rw [List.reverse_cons, keepF_snoc, List.length_cons]
      split
      · rw [List.length_append]; show _ + 1 ≤ _; omega
      · omega
  have := this L.reverse
  rwa [List.reverse_reverse, List.length_reverse] at this
theorem any_map {α : Type} (f : α → Bool) (l : List α) : (l.map f).any id = l.any f := by rw [List.any_map]; rfl
theorem all2_rev {α β : Type} {R : α → β → Prop} : ∀ {as : List α} {bs : List β}, All2 R as bs → All2 R as.reverse bs.reverse
  | _, _, .nil => .nil
  | _, _, .cons h t => by
    rw [List.reverse_cons, List.reverse_cons]
    exact (all2_rev t).app (.cons h .nil)
/-- the greatest can be sorted: the empty lot among them stands alone -/
theorem srt_lots {ls : List Lot} (h : [] ∈ ls → ∀ l ∈ ls, l = []) : PySem.W.Sortable (ls.map lD) ∨ PySem.W.Tup0 (ls.map lD) := by
  by_cases c : [] ∈ ls
  · refine .inr (tup0_lots ?_)
    cases ls with
    | nil => cases c
    | cons l r => exact ⟨r, by rw [h c l (.head _)]⟩
  · refine .inl (.inl fun d hd => ?_)
    obtain ⟨l, hl, rfl⟩ := List.mem_map.mp hd
    cases l with
    | nil => exact absurd hl c
    | cons x r => exact ⟨_, _, rfl⟩
theorem great_srt {ns : List Str} {p : Lot → Bool} : PySem.W.Sortable ((keepF trp p (OL ns).reverse).map lD) ∨ PySem.W.Tup0 ((keepF trp p (OL ns).reverse).map lD) := by
  refine srt_lots fun m l hl => ?_
  rw [great_keep] at m hl
  obtain ⟨h1, h2⟩ := List.mem_filter.mp m
  obtain ⟨h3, h4⟩ := List.mem_filter.mp hl
  unfold minB at h2 h4
  rw [Bool.and_eq_true] at h2 h4
  have h5 := List.all_eq_true.mp h2.2 l h3
  rw [h4.1, show trp l [] = true from rfl] at h5
  simpa using h5
/-- what a wish on lots is to those who call it -/
def WishB (H0 : Hp) (spf : Sp) (p : Lot → Bool) (ls : List Lot) : Prop := ∀ l ∈ ls, ∀ (H : Hp) (v : V) (Q : VK), TupK H0 H → LotH H v l → (∀ H', Same H H' → Q (.bl (p l)) H') → spf [v] H Q fun _ _ _ => False
section
variable {P : Program} {w : World} {K : PySem.W.Frag} {mg : Str → Option Value} {base : Heap}
/-! ### least_ones -/
abbrev s_least_ones : Stmt := top 27
theorem sc_least_ones : FnScope ["lots", "is_wanted", "least", "lot", "one"] ["lots", "is_wanted"] (defScope s_least_ones) := ⟨rfl, rfl, rfl, by decide +kernel, rfl, by decide +kernel, by decide +kernel⟩
def spLeastO (P : Program) (w : World) (K : PySem.W.Frag) (mg : Str → Option Value) (b : Heap) : Sp := fun vs H Q _ => ∃ (a f : Addr) (ls : List Lot) (p : Lot → Bool) (spf : Sp), vs = [.ref a, .ref f] ∧ LosH H a ls ∧ ls.length ≤ 1000 ∧ (∀ l ∈ ls, l.length ≤ 1000) ∧ CallV P w K mg b 4 spf H f ∧ WishB H spf p ls ∧
  ∀ r H', Same H H' → TalH H' (.ref r) (keepF prt p ls) → Q (.ref r) H'
theorem ok_leastO {f : Addr} {fd : FuncData} (F : Fun K "least_ones" "least_ones" s_least_ones f fd) (C_is_part : Cl P w K mg base "is_part" ["lot", "other"] [] 2 (spPart K)) (n_any : mg "any" = none) (n_tuple : mg "tuple" = none) : FnOk P w K mg base CX0 5 f fd ["lots", "is_wanted"] (spLeastO P w K mg base) := by
  refine F.ok sc_least_ones (fun vs H Q E h => ?_) (fun cdv A outer s H vs Q E hr h => ?_)
  · obtain ⟨_, _, _, _, _, rfl, _⟩ := h
    rfl
  · obtain ⟨a, f, ls, p, spf, rfl, hl, ll, lz, cv, wish, q⟩ := h
    refine ⟨_, (pss_cons (ps_set (i := 2) sc_least_ones.nd rfl (Or.inl rfl) (pe_lst pa_nil))
    (Evl.pss_cut (ps_for PassesOwn.never rfl (pi_seq (pv 0)) (pg_name (i := 3) sc_least_ones.nd rfl (Or.inr rfl))
      (pss_one (ps_if (PW.pt (pw_and (pt_not (pt_val (pe_callB (cr_any rfl) (by rfl) n_any (by decide +kernel) (pa_cons (pe_lc (own := [("one", 4)]) (g := gName 4) rfl sc_least_ones.nd (pi_seq (pv 2)) (blkOk_by (N := ["lots", "is_wanted", "least", "lot", "one"]) (sc := defScope s_least_ones) (by decide +kernel)) (fun _ _ _ _ _ => pg_name (i := 4) sc_least_ones.nd rfl (Or.inl rfl)) (fun _ _ _ _ _ => pts_nil) (fun _ _ _ _ _ => pe_use C_is_part (hr.mono (by decide)) rfl (pa_cons (pv 4) (pa_cons (pv 3) pa_nil)))) pa_nil)))) (pw_and1 (pt_val (pe_varV (lv := 4) (i := 1) (sp := spf) (E := fun _ _ _ _ => False) rfl (.inl rfl) (hr.mono (by decide)) (fun _ => passF) (pa_cons (pv 3) pa_nil)))))) (pss_one (ps_expr (pe_bm PySem.F.plainAttrs_list PySem.F.slot_list_append PySem.F.type_list_append mt_append (pv 2) (pa_cons (pv 3) pa_nil)))) pss_nil)))
    (pss_one (ps_ret (pe_callTy call_tuple_of (by rfl) n_tuple (by decide +kernel) (pa_cons (pv 2) pa_nil)))))), ?_⟩
    refine ⟨by show 0 ≤ sizeLine; decide, fun kp kk => ?_⟩
    have s0 := same_new kk (.lst [])
    have ek : upd H kp (.lst []) kp = some (.lst []) := upd_same
    have fin : ∀ H', Kept kp (upd H kp (.lst [])) H' → Same H H' := fun H' k b o e => k b o (s0 _ _ e) (ne_of_none e kk)
    generalize upd H kp (.lst []) = H0 at s0 ek fin ⊢
    obtain ⟨its, ea, al⟩ := hl.same s0
    have nak : a ≠ kp := fun z => by obtain ⟨_, e, _⟩ := hl; rw [z, kk] at e; cases e
    have cv0 := cv.same s0
    refine ⟨fun σ H' => ∃ (kits : List V) (o3 o4 : Option V), σ = [some (.ref a), some (.ref f), some (.ref kp), o3, o4] ∧ Kept kp H0 H' ∧ H' kp = some (.lst kits) ∧ All2 (LotH H') kits (keepF prt p ls), ?_, ?_⟩
    · refine ⟨_, rfl, a, its, rfl, SqX.lst ea, fun J S W z0 => ?_⟩
      refine for_sq W (fun i σ H' => ∃ (kits : List V) (o3 o4 : Option V), σ = [some (.ref a), some (.ref f), some (.ref kp), o3, o4] ∧ Kept kp H0 H' ∧ H' kp = some (.lst kits) ∧ All2 (LotH H') kits (keepF prt p (ls.take i))) ⟨[], none, none, rfl, Kept.refl _ _, ek, .nil⟩ (fun i σ H' pv => W.keep (fun o e => let ⟨_, _, _, _, k, _⟩ := pv; k _ _ e nak) z0) ?_ ?_
      · rintro i σ H1 x ex ⟨kits, o3, o4, rfl, k1, e1, al1⟩
        obtain ⟨l, el, hl⟩ := al.get ex
        have tk : TupK H0 H1 := fun b xs e => k1 b _ e fun z => by rw [z, ek] at e; cases e
        have hl1 := hl.on tk
        have cv1 : CallV P w K mg base 4 spf H1 f   := cv0.keep fun b φ e => k1 b _ e fun z => by rw [z, ek] at e; cases e
        obtain ⟨lb, rfl, elb⟩ := id hl1
        have ml := at_mem el
        have kl : (keepF prt p (ls.take i)).length ≤ 1000 := by
          have : (keepF prt p (ls.take i)).length ≤ (ls.take i).length := keepF_len _
          rw [List.length_take] at this
          omega
        have es : keepF prt p (ls.take (i + 1)) = if !((keepF prt p (ls.take i)).any fun y => prt y l) && p l then keepF prt p (ls.take i) ++ [l] else keepF prt p (ls.take i) := by
          rw [List.take_add_one, el]; exact keepF_snoc _ _
        refine ⟨_, rfl, kp, kits, rfl, SqX.lst e1, fun J2 S2 W2 z2 D hD => ?_⟩
        refine lc_mf (ds := keepF prt p (ls.take i)) W2 (fun _ => true) (fun _ y o => y = .bl (prt o l)) z2 hD al1.len (fun j y o H' ey eo s m => ?_) (fun H2 ys s2 e2 al2 => ?_)
        · obtain ⟨o', eo', ho⟩ := al1.get ey
          obtain rfl : o' = o := Option.some.inj (eo'.symm.trans eo)
          obtain ⟨ob, rfl, eob⟩ := ho.same s
          have mo := (keepF_mem (at_mem eo)).1
          refine ⟨rfl, _, rfl, _, rfl, ob, lb, o', l, rfl, SqT.of eob, SqT.of (s _ _ elb), lz _ (List.mem_of_mem_take mo), fun H3 s3 => ?_⟩
          exact mf_yes m hD (fun _ _ _ _ _ h => h) eo (by omega) s3 rfl rfl
        rw [Rd.filter_all] at al2
        have ey := al2.map_eq (f := fun o => V.bl (prt o l)) fun _ _ h => h
        have e2' : H2 D = some (.lst (((keepF prt p (ls.take i)).map fun o => prt o l).map V.bl)) := by rw [e2, ey, List.map_map]; rfl
        refine ⟨D, _, rfl, SqL.of e2', ?_⟩
        rw [any_map]
        have hl2 := hl1.same s2
        have cv2 := cv1.same s2
        have k2 : Kept kp H0 H2 := k1.trans fun b o e _ => s2 b o e
        have e12 := s2 _ _ e1
        have al12 := al1.imp fun _ _ r => r.same s2
        refine ⟨_, rfl, ?_⟩
        cases c : (keepF prt p (ls.take i)).any fun y => prt y l with
        | true =>
          rw [c] at es
          refine ⟨kits, _, _, rfl, k2, e12, ?_⟩
          rw [es]; exact al12
        | false =>
          rw [c] at es
          refine ⟨f, rfl, cv2, _, rfl, cv2, wish l ml H2 _ _ ((TupK.same s0).trans (tk.trans (.same s2))) hl2 fun H3 s3 => ⟨_, rfl, ?_⟩⟩
          cases c2 : p l with
          | false =>
            rw [c2] at es
            refine iteF ⟨kits, _, _, rfl, k2.trans fun b o e _ => s3 b o e, s3 _ _ e12, ?_⟩
            rw [es]; exact al12.imp fun _ _ r => r.same s3
          | true =>
            rw [c2] at es
            have e13 := s3 _ _ e12
            refine iteT ⟨_, rfl, .inl ⟨rfl, _, SqL.of e13⟩, _, rfl, kp, kits, .ref lb, rfl, rfl, e13, by rw [al1.len, sizeLine_eq]; omega, ?_⟩
            have fx : Fix H3 (upd H3 kp (.lst (kits ++ [.ref lb]))) := Fix.lst e13
            refine ⟨_, _, _, rfl, fun b o e n => ?_, upd_same, ?_⟩
            · rw [upd_ne n]; exact s3 _ _ (k2 b o e n)
            · rw [es]
              exact (al12.imp fun _ _ r => (r.same s3).fix fx).app (.cons ((hl2.same s3).fix fx) .nil)
      · rintro σ H1 ⟨kits, o3, o4, rfl, k1, e1, al1⟩
        rw [al.len, List.take_length] at al1
        exact ⟨kits, o3, o4, rfl, k1, e1, al1⟩
    rintro σ H1 ⟨kits, o3, o4, rfl, k1, e1, al1⟩
    refine ⟨_, rfl, kp, kits, rfl, .inl ⟨SqL.of e1, fun r hr => ?_⟩⟩
    have s2 := same_new hr (.tup kits)
    exact q r _ ((fin _ k1).trans s2) ⟨r, kits, rfl, upd_same, al1.imp fun _ _ h => h.same s2⟩
end
end K6

namespace K6
open PySem PySem.Spec PyProof.Rows L2 Hb St Sq Ow En Zp RZ Rd Xb Da Lo Cq LamX Lc Lp
/-- a def by its body, its code object at c, whatever its defaults -/
theorem okCD {P : Program} {w : World} {K : PySem.W.Frag} {mg : Str → Option Value} {base : Heap} {CX : CXT} {x qual : Str} {st : Stmt} {f c : Addr} {oc : Value} {od an : Option Addr} {osl : Array (Option Value)} {dV kV doc pm ct : Value} {N ps : List Str} {k : Nat} {sp : Sp}
    (lk : K.lookup f = some ⟨oc, od, .func (PySem.W.fnOf x qual (defArgs st) (defBody st) (defScope st) dV kV doc pm an (.ref c) ct), osl⟩) (cd : PySem.W.codeIn K (.ref c) qual = true) (S : FnScope N ps (defScope st)) (len : ∀ vs H Q E, sp vs H Q E → vs.length = ps.length)
    (hbody : ∀ (A : Around) (outer : List Env) (s : Shared) (H : Hp) (vs : List V) (Q : VK) (E : XK), Room k (A.deeper (envOfC qual (defScope st) s.heap.objs.size f (.ref c))) → sp vs H Q E →
      ∃ t, PSs (cxOf CX P w K mg base N qual (defScope st) f (.ref c) A outer s H E) (defBody st) t ∧ t { nx := fun _ H' => Q .non H', rt := Q } (start N vs) H) :
    FnOk P w K mg base CX (k + 1) f (PySem.W.fnOf x qual (defArgs st) (defBody st) (defScope st) dV kV doc pm an (.ref c) ct) ps sp :=
  fn_of lk cd S len fun A outer s H vs Q E hr hsp => hbody A outer s H vs Q E hr hsp
def lamArg : Stmt → Expr
  | .Return (some (.Call _ [_, l] _ _)) _ => l
  | _ => .Constant .none 0 ⟨0, 0, 0, 0⟩
def lPrm : Expr → Arguments
  | .Lambda p _ _ _ => p
  | _ => { posonlyargs := [], args := [], vararg := none, kwonlyargs := [], kw_defaults := [], kwarg := none, defaults := [] }
def lBod : Expr → Expr
  | .Lambda _ b _ _ => b
  | e => e
def lSc : Expr → Scope
  | .Lambda _ _ s _ => s
  | _ => { kind := .function, names := [], isGenerator := false, isCoroutine := false }
abbrev s_parting_lots : Stmt := top 29
theorem sc_parting_lots : FnScope ["one", "other", "surely"] ["one", "other", "surely"] (defScope s_parting_lots) := ⟨rfl, rfl, rfl, by decide +kernel, rfl, by decide +kernel, by decide +kernel⟩
abbrev qPL : Str := (envOfC "parting_lots" (defScope s_parting_lots) 0 0 .none).qual ++ "<lambda>"
abbrev lamPL : Expr := lamArg ((defBody s_parting_lots).getD 1 (.Pass ⟨0, 0, 0, 0⟩))
/-- the wish on lots that the lambda is: neg: turned about -/
def spWish (K : PySem.W.Frag) (neg : Bool) (cvs : List V) : Sp := fun vs H Q _ => ∃ (v u lv : V) (s : Bool) (a b : Tale) (l : Lot), cvs = [v, u, .bl s] ∧ vs = [lv] ∧ TalH H v a ∧ TalH H u b ∧ TlOk a ∧ TlOk b ∧ LotH H lv l ∧ ∀ H', Same H H' → Q (.bl (neg != partB a b l s)) H'
section
variable {P : Program} {w : World} {K : PySem.W.Frag} {mg : Str → Option Value} {base : Heap}
theorem lam_PL (C_is_parted : Cl P w K mg base "is_parted" ["one", "other", "names", "surely"] [] 3 (spParted K)) : LmC P w K mg base 3 qPL (lPrm lamPL) (lBod lamPL) (lSc lamPL) ["lot"] ["one", "other", "surely"] (spWish K false) where
  kind := rfl
  co := rfl
  gen := rfl
  noc := by decide +kernel
  loc := by decide +kernel
  fre := by decide +kernel
  nd := by decide +kernel
  len := fun cvs vs H Q E h => by
    obtain ⟨_, _, _, _, _, _, _, _, rfl, _⟩ := h
    rfl
  bind := fun us cl pm cv ct h => by
    match us, h with
    | [a], _ => rfl
  run := fun cvs f c cl A outer s H vs Q E hr _ h => by
    obtain ⟨v, u, lv, sb, a, b, l, rfl, rfl, ha, hb, oa, ob, hl, q⟩ := h
    refine ⟨_, pe_use C_is_parted hr rfl (pa_cons (pv 1) (pa_cons (pv 2) (pa_cons (pv 0) (pa_cons (pv 3) pa_nil)))), ?_⟩
    obtain ⟨lb, rfl, elb⟩ := hl
    exact ⟨_, rfl, _, rfl, _, rfl, _, rfl, v, u, lb, a, b, l, sb, rfl, ha, hb, SqX.tup elb, oa, ob, fun H' s => by have := q H' s; rwa [Bool.false_bne] at this⟩
end
end K6

namespace K6
open PySem PySem.Spec PyProof.Rows L2 Hb St Sq Ow En Zp RZ Rd Xb Da Lo Cq LamX Lc Lp
theorem frPL : ∀ y ∈ (lSc lamPL).names, y.2 = .free → (defScope s_parting_lots).names.lookup y.1 = some .cell ∨ (defScope s_parting_lots).names.lookup y.1 = some .free := by decide +kernel
theorem TupK.ext {H H' : Hp} (x : ExtN H H') : TupK H H' := fun b xs e => x b _ e (fun ps z => by cases z)
/-- two values that ought to be tales -/
structure Two (K : PySem.W.Frag) (H : Hp) (v u : V) (d e : PyData) (a b : Tale) : Prop where
  dv : Dp K H v d
  du : Dp K H u e
  sd : Sm2 d
  se : Sm2 e
  ok : firstNo [d, e] = none → TalH H v a ∧ TalH H u b ∧ TlOk a ∧ TlOk b
  nm : (lotS (namesT [a, b])).length ≤ 4
  ln : (namesT [a, b]).length ≤ 1000
theorem Two.same {K : PySem.W.Frag} {H H' : Hp} {v u : V} {d e : PyData} {a b : Tale} (t : Two K H v u d e a b) (s : Same H H') : Two K H' v u d e a b :=
  ⟨dp_same s t.dv, dp_same s t.du, t.sd, t.se, fun n => let ⟨x, y, p, q⟩ := t.ok n; ⟨x.same s, y.same s, p, q⟩, t.nm, t.ln⟩
theorem Two.sm {K : PySem.W.Frag} {H : Hp} {v u : V} {d e : PyData} {a b : Tale} (t : Two K H v u d e a b) : ∀ x ∈ [d, e], Sm2 x := fun x hx => by
  rcases List.mem_cons.mp hx with rfl | z
  · exact t.sd
  · rw [List.mem_singleton.mp z]; exact t.se
section
variable {P : Program} {w : World} {K : PySem.W.Frag} {mg : Str → Option Value} {base : Heap}
/-- need_tales(a, b) -/
theorem rd_need {C : Addr} {H : Hp} {v u : V} {d e : PyData} {a b : Tale} {Q : VK} {E : XK} (t : Two K H v u d e a b) (q : firstNo [d, e] = none → ∀ H', Same H H' → Q .non H') (qe : ∀ k, firstNo [d, e] = some k → ∀ dd H', Same H H' → H' dd = some (errH (k : Nat)) → E (.ref C) (some dd) H') : spNeedR K C [v, u] H Q E := by
  refine ⟨[], [v, u], rfl, rfl, by show 2 ≤ sizeLine; decide, fun p hp => ?_⟩
  have s1 := same_new hp (.tup [v, u])
  have t1 := t.same s1
  exact ⟨p, [v, u], [d, e], rfl, upd_same, .cons t1.dv (.cons t1.du .nil), by show 2 ≤ 1000; decide, t1.sm, fun no H2 s2 => q no _ (s1.trans s2), fun k hk dd H2 s2 ed => qe k hk dd _ (s1.trans s2) ed⟩
def spPL (K : PySem.W.Frag) (C : Addr) (T : List (Addr × Str)) (res : Tale → Tale → Bool → Tale) : Sp := fun vs H Q E => ∃ (v u : V) (s : Bool) (d e : PyData) (a b : Tale), vs = [v, u, .bl s] ∧ Two K H v u d e a b ∧ Tabs T H ∧
  (firstNo [d, e] = none → ∀ r H', ExtN H H' → Tabs T H' → TalH H' (.ref r) (res a b s) → Q (.ref r) H') ∧ ∀ k, firstNo [d, e] = some k → ∀ dd H', Same H H' → H' dd = some (errH (k : Nat)) → E (.ref C) (some dd) H'
def leastT (a b : Tale) (s : Bool) : Tale := keepF prt (fun l => partB a b l s) (OL (namesT [a, b]))
def greatT (a b : Tale) (s : Bool) : Tale := (keepF trp (fun l => !partB a b l s) (OL (namesT [a, b])).reverse).mergeSort lle
theorem OL_len {ns : List Str} (h : (lotS ns).length ≤ 4) : (OL ns).length ≤ 16 := by
  unfold OL
  rw [List.length_mergeSort]
  exact LL_len h
theorem OL_lot {ns : List Str} (h : (lotS ns).length ≤ 4) : ∀ l ∈ OL ns, l.length ≤ 1000 := fun l m => by
  have := (mem_OL.mp m).length_le
  omega
theorem ok_PL {f c Pt C fn : Addr} {T : List (Addr × Str)} {oc : Value} {od an : Option Addr} {osl : Array (Option Value)} {dV kV doc pm ct : Value}
    (lk : K.lookup f = some ⟨oc, od, .func (PySem.W.fnOf "parting_lots" "parting_lots" (defArgs s_parting_lots) (defBody s_parting_lots) (defScope s_parting_lots) dV kV doc pm an (.ref c) ct), osl⟩) (cd : PySem.W.codeIn K (.ref c) "parting_lots" = true) (TB : TabB base mg c Pt)
    (inT : (Pt, qPL) ∈ T) (one : ∀ y ∈ T, y.1 = Pt → y.2 = qPL)
    (N : FnR P w K mg base (L2.CX P w) 4 fn (spNeedR K C)) (gN : mg "need_tales" = some (.ref fn)) (kN : PySem.W.keepIn K (.ref fn) = true) (C_bells_of : Cx_ P w K mg base "bells_of" ["tales"] 6 (spBells K C)) (C_ordered_lots : Cl P w K mg base "ordered_lots" ["names"] [] 3 (spOrd K))
    (C_is_parted : Cl P w K mg base "is_parted" ["one", "other", "names", "surely"] [] 3 (spParted K)) (HO : Ho P w K mg base CX0 "least_ones" ["lots", "is_wanted"] 5 (spLeastO P w K mg)) :
    FnOk P w K mg base (L2.CX P w) 7 f (PySem.W.fnOf "parting_lots" "parting_lots" (defArgs s_parting_lots) (defBody s_parting_lots) (defScope s_parting_lots) dV kV doc pm an (.ref c) ct) ["one", "other", "surely"] (spPL K C T leastT) := by
  refine okCD lk cd sc_parting_lots (fun vs H Q E h => ?_) (fun A outer s H vs Q E hr h => ?_)
  · obtain ⟨_, _, _, _, _, _, _, rfl, _⟩ := h
    rfl
  · obtain ⟨v, u, sb, d, e, a, b, rfl, tw, tabs, q, qe⟩ := h
    refine ⟨_, (pss_cons (ps_expr (pe_goR N gN kN (hr.mono (by decide)) (fun σ => passAt (takes_of rfl rfl rfl rfl) σ) rfl (pa_cons (pv 0) (pa_cons (pv 1) pa_nil))))
      (pss_one (ps_ret (pe_ho HO (fun _ => rfl) (hr.mono (by decide)) pass0 rfl (E := E0) (pa_cons (pe_use C_ordered_lots (hr.mono (by decide)) rfl (pa_cons (pe_useX C_bells_of (hr.mono (by decide)) (fun σ => passAt (takes_of rfl rfl rfl rfl) σ) rfl (pa_cons (pe_tup (pa_cons (pv 0) (pa_cons (pv 1) pa_nil))) pa_nil)) pa_nil)) (pa_cons (pe_clo (T := T) TB rfl inT one rfl frPL) pa_nil)))))), ?_⟩
    refine ⟨_, rfl, _, rfl, rd_need tw (fun no H1 s1 => ?_) fun k hk dd H1 s1 ed => qe k hk dd H1 s1 ed⟩
    have q := q no
    obtain ⟨ha, hb, oa, ob⟩ := (tw.same s1).ok no
    have tw1 := tw.same s1
    refine ⟨_, rfl, _, rfl, by show 2 ≤ sizeLine; decide, fun tp htp => ?_⟩
    have s2 := same_new htp (.tup [v, u])
    have etp : upd H1 tp (.tup [v, u]) tp = some (.tup [v, u]) := upd_same
    generalize upd H1 tp (.tup [v, u]) = H2 at s2 etp ⊢
    have tw2 := tw1.same s2
    have no2 : toldE (.tuple [d, e]) = none := by
      show (if seqD (.tuple [d, e]) = false then _ else (firstNo [d, e]).map _) = none
      rw [no]; rfl
    refine ⟨.ref tp, .tuple [d, e], [a, b], rfl, .tup (SqT.of etp) (.cons tw2.dv (.cons tw2.du .nil)), ⟨by show 2 ≤ 1000; decide, tw.sm⟩, fun _ => ⟨tp, _, rfl, SqX.tup etp, .cons (ha.same s2) (.cons (hb.same s2) .nil)⟩, tw.ln, fun _ np H3 s3 e3 => ?_, fun k hk => by rw [no2] at hk; cases hk⟩
    refine ⟨np, lotS (namesT [a, b]), rfl, SqX.tup e3, tw.nm, fun op H4 s4 hop => ?_⟩
    have eOL : OL (lotS (namesT [a, b])) = OL (namesT [a, b]) := OL_congr fun x => mem_lotS
    rw [eOL] at hop
    have s14 := (s2.trans s3).trans s4
    have s04 := s1.trans s14
    refine ⟨tabs.ext (fun b o e => s04 b o e), fun cf cc H5 x5 t5 n5 c5 => ?_⟩
    have ha5 := (ha.same s14).on (.ext x5)
    have hb5 := (hb.same s14).on (.ext x5)
    have s6 := same_new n5 (CloO qPL (lPrm lamPL) (lBod lamPL) (lSc lamPL) (cloFrom (envOfC "parting_lots" (defScope s_parting_lots) s.heap.objs.size f (.ref c)).cells (lSc lamPL).names []) cc cf)
    refine fun bs le cel => ?_
    have hop6 : LosH (upd H5 cf (CloO qPL (lPrm lamPL) (lBod lamPL) (lSc lamPL) (cloFrom (envOfC "parting_lots" (defScope s_parting_lots) s.heap.objs.size f (.ref c)).cells (lSc lamPL).names []) cc cf)) op (OL (namesT [a, b])) := by
      obtain ⟨its, eo, al⟩ := hop
      exact ⟨its, s6 _ _ (x5 _ _ eo (fun ps z => by cases z)), al.imp fun _ _ r => (r.on (.ext x5)).same s6⟩
    have cvs := Cels.of (cvs := [v, u, .bl sb]) (caps := ["one", "other", "surely"]) cel (sc := lSc lamPL) frPL (by decide +kernel) rfl (fun i x y e1 e2 => by
      match i, e1, e2 with
      | 0, e1, e2 => cases e1; cases e2; exact ⟨0, rfl, rfl⟩
      | 1, e1, e2 => cases e1; cases e2; exact ⟨1, rfl, rfl⟩
      | 2, e1, e2 => cases e1; cases e2; exact ⟨2, rfl, rfl⟩)
    have cv := CallV.clo (lv := 4) (lam_PL (Cl.up C_is_parted le)) cvs (H := upd H5 cf _) upd_same (s6 _ _ c5) (by decide)
    refine ⟨op, cf, OL (namesT [a, b]), fun l => partB a b l sb, _, rfl, hop6, by have := OL_len tw.nm; omega, OL_lot tw.nm, cv, fun l hl H7 lv Q7 tk hlv q7 => ?_, fun r H7 s7 hr => ?_⟩
    · exact ⟨v, u, lv, sb, a, b, l, rfl, rfl, (ha5.same s6).on tk, (hb5.same s6).on tk, oa, ob, hlv, fun H' s' => by rw [Bool.false_bne]; exact q7 H' s'⟩
    · refine q r H7 (fun b o e n => s7 _ _ (s6 _ _ (x5 _ _ (s04 _ _ e) n))) ?_ hr
      exact (t5.ext fun b o e => s7 _ _ (s6 _ _ e))
end
end K6

/-! comprehensions whose items draw from a box; texts without doubles -/
namespace Lg
open PySem PySem.Spec PyProof.Rows L2 Hb St Sq
/-- a comprehension: M stands ahead of the i-th item -/
theorem lc_go {J : It} {a : Addr} {S : Hp → Prop} {xs : List V} (W : Wk J a S xs) {g : TG} {tt : TT} {te : TE} {vs : List Nat} {σ : L2.St} {H1 : Hp} {D : Addr} {Qd : Hp → Prop} (M : Nat → Hp → Prop)
    (h0 : M 0 (upd H1 D (.lst []))) (stand : ∀ i H, M i H → S H)
    (hs : ∀ i x H, xs[i]? = some x → M i H → g x (wipe σ vs) H fun σ2 H2 => wipe σ2 vs = wipe σ vs ∧ tt σ2 H2 fun b H3 =>
      if b = true then te σ2 H3 fun y H4 => ∃ acc, H4 D = some (.lst acc) ∧ acc.length < sizeLine ∧ M (i + 1) (upd H4 D (.lst (acc ++ [y]))) else M (i + 1) H3)
    (hd : ∀ H, M xs.length H → Qd H) :
    ∃ W : Nat → Nat → Hp → Prop, (∃ m, W 0 m (upd H1 D (.lst []))) ∧ ∀ i m H, W i m H →
      (J.stop i H ∧ Qd H) ∨ (J.go i H ∧ ∃ Nx : Hp → Prop, (∀ H', Nx H' → ∃ m', m' < m ∧ W (i + 1) m' H') ∧ ∀ v H', J.yld i H v H' → g v (wipe σ vs) H' fun σ2 H2 => wipe σ2 vs = wipe σ vs ∧ tt σ2 H2 fun b H3 =>
        if b = true then te σ2 H3 fun y H4 => ∃ acc, H4 D = some (.lst acc) ∧ acc.length < sizeLine ∧ Nx (upd H4 D (.lst (acc ++ [y]))) else Nx H3) := by
  refine ⟨fun i m H => m + i = xs.length ∧ M i H, ⟨xs.length, rfl, h0⟩, fun i m H ⟨e, p⟩ => ?_⟩
  cases m with
  | zero =>
    obtain rfl : i = xs.length := by omega
    exact .inl ⟨W.stop H (stand _ _ p), hd H p⟩
  | succ m =>
    have hi : i < xs.length := by omega
    refine .inr ⟨W.go i H hi (stand _ _ p), M (i + 1), fun H' p' => ⟨m, Nat.lt_succ_self m, by omega, p'⟩, fun v H' y => ?_⟩
    obtain ⟨rfl, ev⟩ := W.yld i H v H' hi (stand _ _ p) y
    exact hs i v H' ev p
theorem sub_yes {α : Type} {xs ns : List α} {i : Nat} {x : α} (s : xs.Sublist (ns.take i)) (e : ns[i]? = some x) : (xs ++ [x]).Sublist (ns.take (i + 1)) := by
  rw [List.take_add_one, e]
  exact s.append (List.Sublist.refl _)
theorem sub_no {α : Type} {xs ns : List α} {i : Nat} (s : xs.Sublist (ns.take i)) : xs.Sublist (ns.take (i + 1)) := by
  rw [List.take_add_one]
  exact s.trans (List.sublist_append_left _ _)
end Lg

namespace K6
open PySem PySem.Spec PyProof.Rows L2 Hb St Sq Ow En Zp RZ Rd Xb Da Lo Cq LamX Lc Lp Lg
local macro_rules | `(tactic| walk_at "sd") => `(tactic| (first
  | decide
  | exact ⟨by decide, by decide⟩
  | exact ⟨by decide, by decide, by decide⟩
  | exact Or.inl ⟨by decide, by decide⟩
  | exact Or.inr ⟨by decide, by decide⟩
  | exact divw (by decide) (by decide)
  | exact divw (by omega) (by omega)
  | exact Or.inl ⟨by omega, by omega⟩
  | exact Or.inr ⟨by omega, by omega⟩
  | (show (0 : Int) < _; omega)))
local macro_rules | `(tactic| walk_at "sq") => `(tactic| (first | exact SqT.of (by assumption) | exact SqL.of (by assumption) | exact SqL.of upd_same | assumption))
local macro_rules | `(tactic| walk_at "rd") => `(tactic| repeat (first
  | refine ⟨_, rfl, ?_⟩
  | refine ⟨_, _, rfl, rfl, (by walk_at "sd"), ?_⟩
  | refine ⟨_, _, rfl, rfl, ?_⟩
  | refine ⟨_, _, _, _, rfl, rfl, (by walk_at "sq"), rfl, ?_⟩
  | refine ⟨_, _, _, _, rfl, rfl, (by first | assumption | exact upd_same), rfl, ?_⟩
  | refine ⟨_, _, rfl, Or.inl (by walk_at "sq"), ?_⟩
  | refine ⟨_, _, rfl, ?_⟩
  | refine Or.inl ⟨_, rfl, ?_⟩
  | refine ⟨rfl, ?_⟩))
/-! ### the box of draws -/
def BoxAt (H : Hp) (p : Addr) : Prop := ∃ g s n : Int, H p = some (.lst [.int g, .int s, .int n]) ∧ 0 ≤ g ∧ (0 ≤ s ∧ s < 2 ^ 40)
theorem BoxAt.same {H H' : Hp} {p : Addr} (s : Same H H') (h : BoxAt H p) : BoxAt H' p := let ⟨g, t, n, e, r⟩ := h; ⟨g, t, n, s _ _ e, r⟩
theorem BoxAt.ne {H : Hp} {p b : Addr} (h : BoxAt H p) (e : H b = none) : b ≠ p := fun z => by obtain ⟨_, _, _, e2, _⟩ := h; rw [z, e2] at e; cases e
theorem BoxAt.neT {H : Hp} {p b : Addr} {xs : List V} (h : BoxAt H p) (e : H b = some (.tup xs)) : b ≠ p := fun z => by obtain ⟨_, _, _, e2, _⟩ := h; rw [z, e2] at e; cases e
theorem BoxAt.kept {H H' : Hp} {p : Addr} (b : BoxAt H p) (k : Kept p H H') : TupK H H' := fun c xs e => k _ _ e (b.neT e)
section
variable {P : Program} {w : World} {K : PySem.W.Frag} {mg : Str → Option Value} {base : Heap}
/-! ### _law_take -/
abbrev s__law_take : Stmt := top 40
theorem sc__law_take : FnScope ["box", "many", "digit", "raw"] ["box", "many"] (defScope s__law_take) := ⟨rfl, rfl, rfl, by decide +kernel, rfl, by decide +kernel, by decide +kernel⟩
def spTake : Sp := fun vs H Q _ => ∃ (p : Addr) (many : Int), vs = [.ref p, .int many] ∧ (1 ≤ many ∧ many < 2 ^ 30) ∧ BoxAt H p ∧ ∀ d H', 0 ≤ d → d < many → Kept p H H' → BoxAt H' p → Q (.int d) H'
theorem ok_take {f : Addr} {fd : FuncData} (F : Fun K "_law_take" "_law_take" s__law_take f fd) (n_int : mg "int" = none) : FnOk P w K mg base CX0 1 f fd ["box", "many"] spTake := by
  refine F.ok sc__law_take (fun vs H Q E h => ?_) (fun cdv A outer s H vs Q E hr h => ?_)
  · obtain ⟨_, _, rfl, _⟩ := h
    rfl
  · obtain ⟨p, many, rfl, hm, ⟨g, s, n, hp, g0, s0⟩, q⟩ := h
    refine ⟨_, (Evl.pss_cut (ps_if (pt_cmpR op_gt (pe_ix ix_list (pv 0) pe_int (fun _ _ => rfl)) pe_int (nomark _)) (pss_cons (ps_set (i := 2) sc__law_take.nd rfl (Or.inl rfl) (pe_op op_mod (pe_callTy call_int1 (by rfl) n_int (by decide +kernel) (pa_cons (pe_ix ix_list (pv 0) pe_int (fun _ _ => rfl)) pa_nil)) (pv 1)))
    (pss_cons (ps_asg (pe_op op_fdivW (pe_ix ix_list (pv 0) pe_int (fun _ _ => rfl)) (pv 1)) (pg_sub (pv 0) pe_int set_list))
    (pss_one (ps_ret (pv 2))))) pss_nil)
    (pss_cons (ps_asg (pe_op op_add (pe_ix ix_list (pv 0) pe_int (fun _ _ => rfl)) pe_int) (pg_sub (pv 0) pe_int set_list))
    (pss_cons (ps_set (i := 3) sc__law_take.nd rfl (Or.inl rfl) (pe_op op_mod (pe_callTy call_int1 (by rfl) n_int (by decide +kernel) (pa_cons (pe_op op_add (pe_op op_mul (pe_op op_add (pe_ix ix_list (pv 0) pe_int (fun _ _ => rfl)) (pe_op op_mul pe_int (pe_ix ix_list (pv 0) pe_int (fun _ _ => rfl)))) pe_int) pe_int) pa_nil)) pe_int))
    (pss_cons (ps_asg (pe_op op_add (pe_op op_mod (pe_callTy call_int1 (by rfl) n_int (by decide +kernel) (pa_cons (pe_op op_add (pe_op op_mul (pv 3) pe_int) pe_int) pa_nil)) pe_int) pe_int) (pg_sub (pv 0) pe_int set_list))
    (pss_one (ps_ret (pe_op op_mod (pe_callTy call_int1 (by rfl) n_int (by decide +kernel) (pa_cons (pe_op op_fdivW (pe_op op_add (pe_op op_mul (pv 3) pe_int) (pe_ix ix_list (pv 0) pe_int (fun _ _ => rfl))) pe_int) pa_nil)) (pv 1)))))))), ?_⟩
    refine ⟨fun σ H' => σ = [some (.ref p), some (.int many), none, none] ∧ H' = H, ?_, ?_⟩
    · walk_at "rd"
      refine iteD (fun c => ?_) (fun c => ?_)
      · walk_at "rd"
        exact q _ _ (Int.emod_nonneg _ (by omega)) (Int.emod_lt_of_pos _ (by omega)) kept_upd ⟨_, _, _, upd_same, Int.ediv_nonneg g0 (by omega), s0⟩
      · exact ⟨rfl, rfl⟩
    rintro σ H' ⟨rfl, rfl⟩
    walk_at "rd"
    refine q _ _ (Int.emod_nonneg _ (by omega)) (Int.emod_lt_of_pos _ (by omega)) (fun b o e nb => by rw [upd_ne nb, upd_ne nb]; exact e) ⟨_, _, _, upd_same, g0, ⟨?_, ?_⟩⟩
    · have := Int.emod_nonneg (((s + 88741 * (n + 1)) * 65071 + 31) % 2147483563 * 40013 + 31321) (show (2147483629 : Int) ≠ 0 by decide)
      omega
    · have := Int.emod_lt_of_pos (((s + 88741 * (n + 1)) * 65071 + 31) % 2147483563 * 40013 + 31321) (show (0 : Int) < 2147483629 by decide)
      omega
/-! ### _law_box -/
abbrev s__law_box : Stmt := top 39
theorem sc__law_box : FnScope ["script", "k", "cell"] ["script", "k"] (defScope s__law_box) := ⟨rfl, rfl, rfl, by decide +kernel, rfl, by decide +kernel, by decide +kernel⟩
def spBox (K : PySem.W.Frag) : Sp := fun vs H Q _ => ∃ (a : Addr) (ns : List Int) (k : Int), vs = [.ref a, .int k] ∧ (0 ≤ k ∧ k ≤ 100) ∧ SqL K H a (ns.map V.int) ∧ ns.length ≤ 63 ∧ ∀ p H', H p = none → Same H H' → BoxAt H' p → Q (.ref p) H'
theorem at_int {ns : List Int} {k : Int} (h0 : 0 ≤ k) (h : k < (ns.length : Int)) : ∃ v : Int, atI (ns.map V.int) k = some (.int v) := by
  have hk : k.toNat < ns.length := by omega
  have ek : k = ((k.toNat : Nat) : Int) := by omega
  have q : atI (ns.map V.int) ((k.toNat : Nat) : Int) = some (.int ns[k.toNat]) := atI_nat (by rw [List.getElem?_map, List.getElem?_eq_getElem hk] <;> rfl)
  rw [← ek] at q
  exact ⟨_, q⟩
theorem abs_nn (i : Int) : 0 ≤ (if i < 0 then -i else i) := by
  by_cases h : i < 0
  · rw [if_pos h]; omega
  · rw [if_neg h]; omega
theorem ok_box {f : Addr} {fd : FuncData} (F : Fun K "_law_box" "_law_box" s__law_box f fd) (n_abs : mg "abs" = none) (n_int : mg "int" = none) (n_len : mg "len" = none) : FnOk P w K mg base CX0 1 f fd ["script", "k"] (spBox K) := by
  refine F.ok sc__law_box (fun vs H Q E h => ?_) (fun cdv A outer s H vs Q E hr h => ?_)
  · obtain ⟨_, _, _, rfl, _⟩ := h
    rfl
  · obtain ⟨a, ns, k, rfl, hk, hS, hl, q⟩ := h
    refine ⟨_, (pss_cons (ps_set (i := 2) sc__law_box.nd rfl (Or.inl rfl) (pe_op op_add (pe_op op_mul pe_int (pv 1)) pe_int))
    (Evl.pss_cut (ps_if (pt_cmpR op_lt (pv 1) (pe_callB call_len_seq (by rfl) n_len PySem.boot_len (pa_cons (pv 0) pa_nil)) (nomark _)) (pss_one (ps_set (i := 2) sc__law_box.nd rfl (Or.inl rfl) (pe_callB call_abs (by rfl) n_abs (by decide +kernel) (pa_cons (pe_ix ix_list (pv 0) (pv 1) (fun _ _ => rfl)) pa_nil)))) (pss_one (ps_if (pt_cmpR op_gt (pe_callB call_len_seq (by rfl) n_len PySem.boot_len (pa_cons (pv 0) pa_nil)) pe_int (nomark _)) (pss_one (ps_set (i := 2) sc__law_box.nd rfl (Or.inl rfl) (pe_op op_add (pv 2) (pe_op op_mul (pe_op op_mod (pe_callTy call_int1 (by rfl) n_int (by decide +kernel) (pa_cons (pe_callB call_abs (by rfl) n_abs (by decide +kernel) (pa_cons (pe_ix ix_list (pv 0) (pe_op op_mod (pe_callTy call_int1 (by rfl) n_int (by decide +kernel) (pa_cons (pv 1) pa_nil)) (pe_callB call_len_seq (by rfl) n_len PySem.boot_len (pa_cons (pv 0) pa_nil))) (fun _ _ => rfl)) pa_nil)) pa_nil)) pe_int) pe_int)))) pss_nil)))
    (pss_one (ps_ret (pe_lst (pa_cons (pe_ix ix_list (pe_lst (pa_cons pe_int (pa_cons (pv 2) pa_nil))) (pe_callTy call_int1 (by rfl) n_int (by decide +kernel) (pa_cons (pe_cmpR op_ge (pv 2) (pe_op op_pow pe_int pe_int) (nomark _)) pa_nil)) (fun _ _ => rfl)) (pa_cons (pe_op op_add (pe_op op_mod (pe_callTy call_int1 (by rfl) n_int (by decide +kernel) (pa_cons (pe_op op_add (pe_op op_mul (pe_op op_mod (pe_callTy call_int1 (by rfl) n_int (by decide +kernel) (pa_cons (pv 2) pa_nil)) pe_int) pe_int) (pe_op op_mul pe_int (pv 1))) pa_nil)) pe_int) pe_int) (pa_cons pe_int pa_nil)))))))), ?_⟩
    walk_at "rd"
    refine ⟨fun σ H' => ∃ c : Int, σ = [some (.ref a), some (.int k), some (.int c)] ∧ H' = H ∧ 0 ≤ c, ?_, ?_⟩
    · walk_at "rd"
      rw [List.length_map]
      refine iteD (fun c => ?_) (fun c => ?_)
      · obtain ⟨v, hv⟩ := at_int hk.1 c
        refine ⟨_, rfl, _, rfl, _, _, _, _, rfl, rfl, hS, hv, _, rfl, _, rfl, rfl, abs_nn v⟩
      · walk_at "rd"
        refine iteD (fun c2 => ?_) (fun c2 => ?_)
        · rw [List.length_map] at c2
          obtain ⟨v, hv⟩ := at_int (ns := ns) (k := k % (ns.length : Int)) (Int.emod_nonneg _ (by omega)) (Int.emod_lt_of_pos _ (by omega))
          refine ⟨_, rfl, _, rfl, _, rfl, .inl ⟨_, rfl, _, rfl, _, _, rfl, .inl hS, _, _, rfl, rfl, ?_, _, _, _, V.int v, rfl, rfl, hS, ?_, ?_⟩⟩
          · rw [List.length_map]; exact c2
          · rw [List.length_map]; exact hv
          · walk_at "rd"
            have := Int.emod_nonneg (if v < 0 then -v else v) (show (2147483629 : Int) ≠ 0 by decide)
            omega
        · exact ⟨_, rfl, rfl, by omega⟩
    rintro σ H' ⟨c, rfl, rfl, hc⟩
    have fin : ∀ (g : Int) (lp : Addr) (H2 : Hp), 0 ≤ g → Same H' H2 → ∀ p, H2 p = none → Q (.ref p) (upd H2 p (.lst [.int g, .int ((c % 2147483629 * 44501 + 52817 * k) % 2147483629 + 1), .int 0])) := fun g lp H2 g0 s2 p hp => by
      refine q p _ ?_ (s2.trans (same_new hp _)) ⟨g, _, _, upd_same, g0, ⟨?_, ?_⟩⟩
      · cases e : H' p with
        | none => rfl
        | some o => rw [s2 _ _ e] at hp; cases hp
      · have := Int.emod_nonneg (c % 2147483629 * 44501 + 52817 * k) (show (2147483629 : Int) ≠ 0 by decide)
        omega
      · have := Int.emod_lt_of_pos (c % 2147483629 * 44501 + 52817 * k) (show (0 : Int) < 2147483629 by decide)
        omega
    refine ⟨_, rfl, by show 2 ≤ sizeLine; decide, fun lp klp => ?_⟩
    have s2 := same_new klp (.lst [V.int 0, V.int c])
    have e2 : upd H' lp (.lst [V.int 0, V.int c]) lp = some (.lst [V.int 0, V.int c]) := upd_same
    generalize upd H' lp (.lst [V.int 0, V.int c]) = H2 at s2 e2 ⊢
    refine ⟨_, rfl, _, _, rfl, rfl, ⟨by decide, by decide, by decide⟩, _, _, rfl, rfl, .inr ⟨_, rfl, ?_⟩⟩
    by_cases c2 : (10 : Int) ^ (Int.toNat 18) ≤ c
    · rw [decide_eq_true c2]
      refine ⟨lp, _, 1, .int c, rfl, rfl, SqL.of e2, at1, ?_⟩
      walk_at "rd"
      exact ⟨by show 3 ≤ sizeLine; decide, fun p hp => fin c lp H2 hc s2 p hp⟩
    · rw [decide_eq_false c2]
      refine ⟨lp, _, 0, .int 0, rfl, rfl, SqL.of e2, at0, ?_⟩
      walk_at "rd"
      exact ⟨by show 3 ≤ sizeLine; decide, fun p hp => fin 0 lp H2 (Int.le_refl 0) s2 p hp⟩
end
end K6

namespace K6
open PySem PySem.Spec PyProof.Rows L2 Hb St Sq Ow En Zp RZ Rd Xb Da Lo Cq LamX Lc Lp Lg
/-! ### names -/
structure NsOk (ns : List Str) : Prop where
  asc : ns.Pairwise sLt
  ne : ns ≠ []
  ln : ns.length ≤ 4
  nm : ∀ x ∈ ns, IsNm x
def nameC (ahead : Bool) (c : Nat) (stem : Str) : Str := if ahead = true then (⟨#[c]⟩ : Str) ++ stem else stem ++ ⟨#[c]⟩
theorem cps_app (a b : Str) : (a ++ b).cps.toList = a.cps.toList ++ b.cps.toList := Array.toList_append
theorem nameC_inj {ahead : Bool} {c d : Nat} {stem : Str} (h : nameC ahead c stem = nameC ahead d stem) : c = d := by
  unfold nameC at h
  cases ahead with
  | true =>
    rw [if_pos rfl, if_pos rfl] at h
    have := congrArg (fun s : Str => s.cps.toList) h
    simp only [cps_app] at this
    have e : ∀ c : Nat, (⟨#[c]⟩ : Str).cps.toList = [c] := fun _ => rfl
    rw [List.singleton_append, List.singleton_append] at this
    exact (List.cons.inj this).1
  | false =>
    rw [if_neg (by decide), if_neg (by decide)] at h
    have := congrArg (fun s : Str => s.cps.toList) h
    simp only [cps_app] at this
    have e : ∀ c : Nat, (⟨#[c]⟩ : Str).cps.toList = [c] := fun _ => rfl
    have := List.append_cancel_left this
    exact (List.cons.inj this).1
def StemOk (x : Str) : Prop := x.length ≤ 7 ∧ ∀ c ∈ x.cps.toList, 97 ≤ c ∧ c < 123
theorem nameC_nm {ahead : Bool} {c : Nat} {stem : Str} (h : StemOk stem) (hc : 97 ≤ c ∧ c < 123) : IsNm (nameC ahead c stem) := by
  have ln : ∀ a b : Str, (a ++ b).length = a.length + b.length := fun _ _ => Array.size_append
  have e1 : (⟨#[c]⟩ : Str).length = 1 := rfl
  have e2 : (⟨#[c]⟩ : Str).cps.toList = [c] := rfl
  have h7 := h.1
  unfold nameC
  cases ahead with
  | true =>
    rw [if_pos rfl]
    refine ⟨by rw [ln, e1]; omega, by rw [ln, e1]; omega, fun d hd => ?_⟩
    rw [cps_app, e2] at hd
    rcases List.mem_append.mp hd with hd | hd
    · rw [List.mem_singleton.mp hd]; exact hc
    · exact h.2 d hd
  | false =>
    rw [if_neg (by decide)]
    refine ⟨by rw [ln, e1]; omega, by rw [ln, e1]; omega, fun d hd => ?_⟩
    rw [cps_app, e2] at hd
    rcases List.mem_append.mp hd with hd | hd
    · exact h.2 d hd
    · rw [List.mem_singleton.mp hd]; exact hc
theorem abc_at : ∀ d : Nat, d < 26 → atI (("abcdefghijklmnopqrstuvwxyz" : Str).cps.toList) (d : Int) = some (97 + d) := by decide +kernel
theorem stem_ok : ∀ x ∈ [(Str.ofString "" : Str), Str.ofString "", Str.ofString "a", Str.ofString "zq", Str.ofString "bellrin"], StemOk x := by
  intro x hx
  have : ∀ x ∈ [(Str.ofString "" : Str), Str.ofString "", Str.ofString "a", Str.ofString "zq", Str.ofString "bellrin"], (decide (x.length ≤ 7) && x.cps.toList.all fun c => decide (97 ≤ c) && decide (c < 123)) = true := by decide +kernel
  have := this x hx
  simp only [Bool.and_eq_true, decide_eq_true_eq, List.all_eq_true] at this
  exact this
/-- the k-th letter -/
def letN (start step : Int) (k : Nat) : Nat := 97 + ((start + step * (k : Nat)) % 26).toNat
theorem letN_ok {start step : Int} {k : Nat} : 97 ≤ letN start step k ∧ letN start step k < 123 := by
  unfold letN
  have h1 := Int.emod_nonneg (start + step * (k : Nat)) (show (26 : Int) ≠ 0 by decide)
  have h2 := Int.emod_lt_of_pos (start + step * (k : Nat)) (show (0 : Int) < 26 by decide)
  omega
theorem letN_inj {start step : Int} (hs : step = 1 ∨ step = 3 ∨ step = 5 ∨ step = 7 ∨ step = 9) {j k : Nat} (hj : j < 4) (hk : k < 4) (h : letN start step j = letN start step k) : j = k := by
  unfold letN at h
  have a1 := Int.emod_nonneg (start + step * (j : Nat)) (show (26 : Int) ≠ 0 by decide)
  have a2 := Int.emod_nonneg (start + step * (k : Nat)) (show (26 : Int) ≠ 0 by decide)
  have e : (start + step * (j : Nat)) % 26 = (start + step * (k : Nat)) % 26 := by omega
  rcases hs with rfl | rfl | rfl | rfl | rfl <;> omega
def namesN (start step : Int) (ahead : Bool) (stem : Str) (n : Nat) : List Str := (List.range n).map fun k => nameC ahead (letN start step k) stem
theorem namesN_nd {start step : Int} {ahead : Bool} {stem : Str} (hs : step = 1 ∨ step = 3 ∨ step = 5 ∨ step = 7 ∨ step = 9) {n : Nat} (hn : n ≤ 4) : (namesN start step ahead stem n).Nodup := by
  unfold namesN
  refine List.pairwise_map.mpr ?_
  refine (List.nodup_range (n := n)).imp_of_mem fun {a b} ha hb ne e => ne ?_
  have ha := List.mem_range.mp ha
  have hb := List.mem_range.mp hb
  exact letN_inj hs (by omega) (by omega) (nameC_inj e)
section
variable {P : Program} {w : World} {K : PySem.W.Frag} {mg : Str → Option Value} {base : Heap}
/-! ### _law_pick -/
abbrev s__law_pick : Stmt := top 41
theorem sc__law_pick : FnScope ["box", "some"] ["box", "some"] (defScope s__law_pick) := ⟨rfl, rfl, rfl, by decide +kernel, rfl, by decide +kernel, by decide +kernel⟩
def spPick (K : PySem.W.Frag) : Sp := fun vs H Q _ => ∃ (p s : Addr) (xs : List V), vs = [.ref p, .ref s] ∧ BoxAt H p ∧ H s = some (.lst xs) ∧ s ≠ p ∧ (1 ≤ xs.length ∧ xs.length ≤ 1000) ∧ ∀ x H', x ∈ xs → Kept p H H' → BoxAt H' p → Q x H'
theorem ok_pick {f : Addr} {fd : FuncData} (F : Fun K "_law_pick" "_law_pick" s__law_pick f fd) (C__law_take : Cl P w K mg base "_law_take" ["box", "many"] [] 1 spTake) (n_len : mg "len" = none) : FnOk P w K mg base CX0 2 f fd ["box", "some"] (spPick K) := by
  refine F.ok sc__law_pick (fun vs H Q E h => ?_) (fun cdv A outer s H vs Q E hr h => ?_)
  · obtain ⟨_, _, _, rfl, _⟩ := h
    rfl
  · obtain ⟨p, s, xs, rfl, hb, hs, ne, hn, q⟩ := h
    refine ⟨_, (pss_one (ps_ret (pe_ix ix_list (pv 1) (pe_use C__law_take (hr.mono (by decide)) rfl (pa_cons (pv 0) (pa_cons (pe_callB call_len_seq (by rfl) n_len PySem.boot_len (pa_cons (pv 1) pa_nil)) pa_nil))) (fun _ _ => rfl)))), ?_⟩
    refine ⟨_, rfl, _, rfl, _, rfl, s, _, rfl, .inl (SqL.of hs), p, _, rfl, ?_, hb, fun d H' d0 d1 k b => ?_⟩
    · omega
    · have hd : d.toNat < xs.length := by omega
      have e : d = ((d.toNat : Nat) : Int) := by omega
      obtain ⟨x, hx⟩ : ∃ x, xs[d.toNat]? = some x := ⟨_, List.getElem?_eq_getElem hd⟩
      refine ⟨s, _, d, x, rfl, rfl, SqL.of (k _ _ hs ne), ?_, q x H' (List.mem_of_getElem? hx) k b⟩
      rw [e]
      exact atI_nat hx
/-! ### _law_names -/
abbrev s__law_names : Stmt := top 42
theorem sc__law_names : FnScope ["box", "many", "stem", "start", "step", "is_ahead", "found", "k", "letter"] ["box", "many"] (defScope s__law_names) := ⟨rfl, rfl, rfl, by decide +kernel, rfl, by decide +kernel, by decide +kernel⟩
def spNames : Sp := fun vs H Q _ => ∃ (p : Addr) (many : Int), vs = [.ref p, .int many] ∧ (1 ≤ many ∧ many ≤ 4) ∧ BoxAt H p ∧ ∀ (l : Addr) (ns : List Str) H', l ≠ p → Kept p H H' → BoxAt H' p → H' l = some (.lst (ns.map V.str)) → NsOk ns → Q (.ref l) H'
theorem ok_names {f : Addr} {fd : FuncData} (F : Fun K "_law_names" "_law_names" s__law_names f fd) (C__law_pick : Cl P w K mg base "_law_pick" ["box", "some"] [] 2 (spPick K)) (C__law_take : Cl P w K mg base "_law_take" ["box", "many"] [] 1 spTake) (n_int : mg "int" = none) (n_range : mg "range" = none) (n_sorted : mg "sorted" = none) : FnOk P w K mg base CX0 3 f fd ["box", "many"] spNames := by
  refine F.ok sc__law_names (fun vs H Q E h => ?_) (fun cdv A outer s H vs Q E hr h => ?_)
  · obtain ⟨_, _, rfl, _⟩ := h
    rfl
  · obtain ⟨p, many, rfl, hm, hb, q⟩ := h
    refine ⟨_, (pss_cons (ps_par (i := 2) (j := 3) (by rfl) sc__law_names.nd rfl rfl (by decide) rfl rfl (pa_cons (pe_use C__law_pick (hr.mono (by decide)) rfl (pa_cons (pv 0) (pa_cons (pe_lst (pa_cons pe_str (pa_cons pe_str (pa_cons pe_str (pa_cons pe_str (pa_cons pe_str pa_nil)))))) pa_nil))) (pa_cons (pe_use C__law_take (hr.mono (by decide)) rfl (pa_cons (pv 0) (pa_cons pe_int pa_nil))) pa_nil)) (by rfl))
    (pss_cons (ps_par3 (i := 4) (j := 5) (l := 6) (by rfl) sc__law_names.nd rfl rfl rfl (by decide) (by decide) (by decide) rfl rfl rfl (pa_cons (pe_use C__law_pick (hr.mono (by decide)) rfl (pa_cons (pv 0) (pa_cons (pe_lst (pa_cons pe_int (pa_cons pe_int (pa_cons pe_int (pa_cons pe_int (pa_cons pe_int pa_nil)))))) pa_nil))) (pa_cons (pe_cmpR op_eq (pe_use C__law_take (hr.mono (by decide)) rfl (pa_cons (pv 0) (pa_cons pe_int pa_nil))) pe_int (nomark _)) (pa_cons (pe_lst pa_nil) pa_nil))) (by rfl))
    (Evl.pss_cut (ps_for PassesOwn.never rfl (pi_range1 (by rfl) n_range (pa_cons (pv 1) pa_nil)) (pg_name (i := 7) sc__law_names.nd rfl (Or.inl rfl))
      (pss_cons (ps_set (i := 8) sc__law_names.nd rfl (Or.inl rfl) (pe_ix ix_str pe_str (pe_op op_mod (pe_callTy call_int1 (by rfl) n_int (by decide +kernel) (pa_cons (pe_op op_add (pv 3) (pe_op op_mul (pv 4) (pv 7))) pa_nil)) pe_int) (fun _ _ => rfl)))
    (pss_one (ps_expr (pe_bm PySem.F.plainAttrs_list PySem.F.slot_list_append PySem.F.type_list_append mt_append (pv 6) (pa_cons (pe_ifExp (pt_val (pv 5)) (pe_op op_add_str (pv 8) (pv 2)) (pe_op op_add_str (pv 2) (pv 8))) pa_nil))))))
    (pss_one (ps_ret (pe_callB cr_sortedS (by rfl) n_sorted (by decide +kernel) (pa_cons (pv 6) pa_nil))))))), ?_⟩
    refine ⟨_, rfl, by show 5 ≤ sizeLine; decide, fun s1 k1 => ?_⟩
    have b1 := hb.same (same_new k1 (.lst [V.str (Str.ofString ""), .str (Str.ofString ""), .str (Str.ofString "a"), .str (Str.ofString "zq"), .str (Str.ofString "bellrin")]))
    have t1 := same_new k1 (.lst [V.str (Str.ofString ""), .str (Str.ofString ""), .str (Str.ofString "a"), .str (Str.ofString "zq"), .str (Str.ofString "bellrin")])
    refine ⟨p, s1, _, rfl, b1, upd_same, hb.ne k1, ⟨by show 1 ≤ 5; decide, by show 5 ≤ 1000; decide⟩, fun st H2 mst k2 b2 => ?_⟩
    obtain ⟨stem, rfl, so⟩ : ∃ x, st = .str x ∧ StemOk x := by
      simp only [List.mem_cons, List.not_mem_nil, or_false] at mst
      rcases mst with rfl | rfl | rfl | rfl | rfl <;> exact ⟨_, rfl, stem_ok _ (by simp)⟩
    have k02 : Kept p H H2 := fun b o e n => k2 b o (t1 _ _ e) n
    clear k2 b1 t1 mst
    refine ⟨_, rfl, p, 26, rfl, ⟨by decide, by decide⟩, b2, fun start H3 st0 st1 k3 b3 => ?_⟩
    refine ⟨_, _, rfl, ?_⟩
    have k03 := k02.trans k3
    refine ⟨_, rfl, by show 5 ≤ sizeLine; decide, fun s2 k4 => ?_⟩
    have t4 := same_new k4 (.lst [V.int 1, .int 3, .int 5, .int 7, .int 9])
    refine ⟨p, s2, _, rfl, b3.same t4, upd_same, b3.ne k4, ⟨by show 1 ≤ 5; decide, by show 5 ≤ 1000; decide⟩, fun st H5 mst k5 b5 => ?_⟩
    obtain ⟨step, rfl, hs⟩ : ∃ x : Int, st = .int x ∧ (x = 1 ∨ x = 3 ∨ x = 5 ∨ x = 7 ∨ x = 9) := by
      simp only [List.mem_cons, List.not_mem_nil, or_false] at mst
      rcases mst with rfl | rfl | rfl | rfl | rfl <;> exact ⟨_, rfl, by decide⟩
    have k05 : Kept p H H5 := k03.trans fun b o e n => k5 b o (t4 _ _ e) n
    clear k5 t4 mst k02 k3 k03
    refine ⟨_, rfl, p, 2, rfl, ⟨by decide, by decide⟩, b5, fun d H6 d0 d1 k6 b6 => ⟨rfl, ?_⟩⟩
    have k06 := k05.trans k6
    refine ⟨by show 0 ≤ sizeLine; decide, fun l hl => ?_⟩
    obtain ⟨ahead, ha⟩ : ∃ ahead, decide (V.int d = V.int 0) = ahead := ⟨_, rfl⟩
    rw [ha]
    have t7 := same_new hl (.lst [])
    have el : upd H6 l (.lst []) l = some (.lst []) := upd_same
    have nl : l ≠ p := b6.ne hl
    have b7 := b6.same t7
    have fin : ∀ H', (∀ b o, upd H6 l (.lst []) b = some o → b ≠ p → b ≠ l → H' b = some o) → Kept p H H' := fun H' k b o e n => k b o (t7 _ _ (k06 _ _ e n)) n (ne_of_none (k06 _ _ e n) hl)
    refine ⟨_, _, _, rfl, ?_⟩
    generalize upd H6 l (.lst []) = H7 at t7 el b7 fin ⊢
    clear k05 k6 k06 t7
    let S : Option V → Option V → L2.St := fun o7 o8 => [some (.ref p), some (.int many), some (.str stem), some (.int start), some (.int step), some (.bl ahead), some (.ref l), o7, o8]
    refine ⟨fun σ H' => (∃ o7 o8, σ = S o7 o8) ∧ (∀ b o, H7 b = some o → b ≠ p → b ≠ l → H' b = some o) ∧ BoxAt H' p ∧ H' l = some (.lst ((namesN start step ahead stem many.toNat).map V.str)), ?_, ?_⟩
    · refine ⟨_, rfl, many, rfl, by omega, by omega, ?_⟩
      refine for_range (n := many.toNat) (fun i σ H' => (∃ o7 o8, σ = S o7 o8) ∧ (∀ b o, H7 b = some o → b ≠ p → b ≠ l → H' b = some o) ∧ BoxAt H' p ∧ H' l = some (.lst ((namesN start step ahead stem i).map V.str))) ⟨⟨none, none, rfl⟩, fun _ _ e _ _ => e, b7, el⟩ ?_ ?_
      · rintro i σ H8 hi ⟨⟨o7, o8, rfl⟩, k8, b8, e8⟩
        have i4 : i < 4 := by omega
        have e0 : (0 : Int) + (i : Nat) = (i : Nat) := by omega
        rw [e0]
        have m0 := Int.emod_nonneg (start + step * (i : Nat)) (show (26 : Int) ≠ 0 by decide)
        have m1 := Int.emod_lt_of_pos (start + step * (i : Nat)) (show (0 : Int) < 26 by decide)
        have ea := abc_at ((start + step * (i : Nat)) % 26).toNat (by omega)
        rw [show ((((start + step * (i : Nat)) % 26).toNat : Nat) : Int) = (start + step * (i : Nat)) % 26 by omega] at ea
        refine ⟨_, rfl, _, rfl, _, rfl, _, _, rfl, rfl, .inl ⟨by rcases hs with rfl | rfl | rfl | rfl | rfl <;> decide, by rcases hs with rfl | rfl | rfl | rfl | rfl <;> decide⟩, _, _, rfl, rfl, .inl ⟨_, rfl, _, _, rfl, rfl, by show (0 : Int) < 26; decide, ?_⟩⟩
        refine ⟨_, _, _, rfl, rfl, by rw [sizeLine_eq]; decide, ea, ?_⟩
        have so7 := so.1
        have l1 : (⟨#[97 + ((start + step * (i : Nat)) % 26).toNat]⟩ : Str).length = 1 := rfl
        have grow : (namesN start step ahead stem (i + 1)) = namesN start step ahead stem i ++ [nameC ahead (letN start step i) stem] := by
          unfold namesN
          rw [List.range_succ, List.map_append]; rfl
        have len : (namesN start step ahead stem i).length = i := by unfold namesN; rw [List.length_map, List.length_range]
        have put : ∀ nm, nm = nameC ahead (letN start step i) stem → ∀ o7 o8, (∃ o7' o8', S o7 o8 = S o7' o8') ∧ (∀ b o, H7 b = some o → b ≠ p → b ≠ l → upd H8 l (.lst ((namesN start step ahead stem i).map V.str ++ [.str nm])) b = some o) ∧ BoxAt (upd H8 l (.lst ((namesN start step ahead stem i).map V.str ++ [.str nm]))) p ∧ upd H8 l (.lst ((namesN start step ahead stem i).map V.str ++ [.str nm])) l = some (.lst ((namesN start step ahead stem (i + 1)).map V.str)) := fun nm en o7 o8 => by
          refine ⟨⟨_, _, rfl⟩, fun b o e n m => by rw [upd_ne m]; exact k8 b o e n m, ?_, ?_⟩
          · obtain ⟨g, s, n, e, r⟩ := b8
            exact ⟨g, s, n, by rw [upd_ne nl.symm]; exact e, r⟩
          · rw [upd_same, grow, List.map_append, en]; rfl
        refine ⟨_, rfl, .inl ⟨rfl, _, SqL.of e8⟩, _, rfl, ahead, rfl, ?_⟩
        cases ahead with
        | true => exact iteT ⟨_, rfl, _, rfl, _, _, rfl, rfl, by rw [sizeLine_eq]; omega, l, _, _, rfl, rfl, e8, by rw [List.length_map, sizeLine_eq]; omega, put _ rfl _ _⟩
        | false => exact iteF ⟨_, rfl, _, rfl, _, _, rfl, rfl, by rw [sizeLine_eq]; omega, l, _, _, rfl, rfl, e8, by rw [List.length_map, sizeLine_eq]; omega, put _ rfl _ _⟩
      · rintro σ H8 r
        exact r
    rintro σ H8 ⟨⟨o7, o8, rfl⟩, k8, b8, e8⟩
    have lenN : (namesN start step ahead stem many.toNat).length = many.toNat := by unfold namesN; rw [List.length_map, List.length_range]
    have ndN : (namesN start step ahead stem many.toNat).Nodup := namesN_nd hs (by omega)
    refine ⟨_, rfl, ?_⟩
    refine ⟨l, _, rfl, SqL.of e8, by omega, fun ys q2 pm so2 hq => ?_⟩
    have t9 := same_new hq (.lst (ys.map V.str))
    refine q q2 ys _ (b8.ne hq) (fun b o e n => t9 _ _ (fin _ k8 b o e n)) (b8.same t9) upd_same ⟨sorted_asc so2 (pm.nodup_iff.mpr ndN), ?_, ?_, fun x hx => ?_⟩
    · intro z
      have := pm.length_eq
      rw [z, lenN] at this
      simp at this
      omega
    · have := pm.length_eq
      omega
    · have := pm.mem_iff.mp hx
      unfold namesN at this
      obtain ⟨k, _, rfl⟩ := List.mem_map.mp this
      exact nameC_nm so letN_ok
end
end K6

namespace K6
open PySem PySem.Spec PyProof.Rows L2 Hb St Sq Ow En Zp RZ Rd Xb Da Lo Cq LamX Lc Lp Lg
/-! ### tales over some names -/
structure TlIn (ns : List Str) (t : Tale) : Prop where
  ne : ∀ l ∈ t, l ≠ []
  asc : ∀ l ∈ t, l.Pairwise sLt
  inn : ∀ l ∈ t, ∀ x ∈ l, x ∈ ns
def LotIn (ns l : List Str) : Prop := l ≠ [] ∧ l.Pairwise sLt ∧ ∀ x ∈ l, x ∈ ns
theorem tlIn_iff {ns : List Str} {t : Tale} : TlIn ns t ↔ ∀ l ∈ t, LotIn ns l :=
  ⟨fun h l m => ⟨h.ne l m, h.asc l m, h.inn l m⟩, fun h => ⟨fun l m => (h l m).1, fun l m => (h l m).2.1, fun l m => (h l m).2.2⟩⟩
theorem NsOk.nd {ns : List Str} (ok : NsOk ns) : ns.Nodup := asc_nodupS ok.asc
theorem LotIn.len {ns l : List Str} (ok : NsOk ns) (h : LotIn ns l) : l.length ≤ 4 := Nat.le_trans (nodup_len (asc_nodupS h.2.1) h.2.2) ok.ln
theorem TlIn.ok {ns : List Str} {t : Tale} (h : TlIn ns t) (ok : NsOk ns) (l : t.length ≤ 100) : TlOk t :=
  ⟨fun l m x mx => ok.nm x (h.inn l m x mx), h.asc, h.ne, l, fun l m => by have := LotIn.len ok ⟨h.ne l m, h.asc l m, h.inn l m⟩; omega⟩
theorem TlIn.names {ns : List Str} : ∀ {t : Tale}, TlIn ns t → NsOk ns → (t.flatMap id).length ≤ 4 * t.length
  | [], _, _ => Nat.le_refl _
  | l :: t, h, ok => by
    have ih := TlIn.names (t := t) (tlIn_iff.mpr fun l m => tlIn_iff.mp h l (.tail _ m)) ok
    have h1 := LotIn.len ok (tlIn_iff.mp h l (.head _))
    rw [List.flatMap_cons, List.length_append, List.length_cons]
    show l.length + _ ≤ _
    omega
/-- all is kept but the box and the thing at t -/
def KeptT (p t : Addr) (H H' : Hp) : Prop := ∀ b o, H b = some o → b ≠ p → b ≠ t → H' b = some o
theorem KeptT.refl (p t : Addr) (H : Hp) : KeptT p t H H := fun _ _ e _ _ => e
theorem KeptT.kept {p t : Addr} {H H1 H2 : Hp} (a : KeptT p t H H1) (b : Kept p H1 H2) : KeptT p t H H2 := fun c o e n m => b c o (a c o e n m) n
theorem KeptT.put {p t : Addr} {H H1 : Hp} {o : HO} (a : KeptT p t H H1) : KeptT p t H (upd H1 t o) := fun c u e n m => by rw [upd_ne m]; exact a c u e n m
theorem _root_.Hb.Kept.sm {p : Addr} {H H1 H2 : Hp} (a : Kept p H H1) (s : Same H1 H2) : Kept p H H2 := fun c o e n => s _ _ (a c o e n)
theorem kept_same {p : Addr} {H H' : Hp} (s : Same H H') : Kept p H H' := fun c o e _ => s c o e
theorem BoxAt.put {H : Hp} {p t : Addr} {o : HO} (b : BoxAt H p) (n : t ≠ p) : BoxAt (upd H t o) p := let ⟨g, s, k, e, r⟩ := b; ⟨g, s, k, by rw [upd_ne n.symm]; exact e, r⟩
theorem LotH.put {H : Hp} {v : V} {l : List Str} {t : Addr} {ys : List V} {o : HO} (h : LotH H v l) (e : H t = some (.lst ys)) : LotH (upd H t o) v l := by
  obtain ⟨b, ev, eb⟩ := h
  exact ⟨b, ev, by rw [upd_ne (fun z => by rw [z, e] at eb; cases eb)]; exact eb⟩
theorem LotH.kept {H H' : Hp} {p : Addr} {v : V} {l : List Str} (h : LotH H v l) (b : BoxAt H p) (k : Kept p H H') : LotH H' v l := h.on (b.kept k)
theorem lotIn_one {ns : List Str} {x : Str} (h : x ∈ ns) : LotIn ns [x] := ⟨by simp, List.pairwise_singleton _ _, fun y hy => by rw [List.mem_singleton.mp hy]; exact h⟩
theorem eqv_nilL (d : List PyData) : PyData.eqv (.list d) (.list []) = decide (d = []) := by cases d <;> rfl
theorem kfix {p : Addr} {H H' : Hp} (h : Kept p H H') (b : BoxAt H p) : Fix H H' := fun c o e n => h c o e fun z => by
  obtain ⟨g, s, k, eb, _⟩ := b
  rw [z, eb] at e
  exact n (Option.some.inj e ▸ .inl ⟨_, rfl⟩)
section
variable {P : Program} {w : World} {K : PySem.W.Frag} {mg : Str → Option Value} {base : Heap}
/-! ### _law_tale -/
abbrev s__law_tale : Stmt := top 43
theorem sc__law_tale : FnScope ["box", "names", "most", "found", "turn", "lot", "name"] ["box", "names", "most"] (defScope s__law_tale) := ⟨rfl, rfl, rfl, by decide +kernel, rfl, by decide +kernel, by decide +kernel⟩
def spTale : Sp := fun vs H Q _ => ∃ (p l : Addr) (ns : List Str), vs = [.ref p, .ref l, .int 7] ∧ BoxAt H p ∧ H l = some (.lst (ns.map V.str)) ∧ l ≠ p ∧ NsOk ns ∧ ∀ t tl H', Kept p H H' → BoxAt H' p → TalH H' (.ref t) tl → TlIn ns tl → tl.length ≤ 7 → Q (.ref t) H'
theorem ok_tale {f : Addr} {fd : FuncData} (F : Fun K "_law_tale" "_law_tale" s__law_tale f fd) (C__law_pick : Cl P w K mg base "_law_pick" ["box", "some"] [] 2 (spPick K)) (C__law_take : Cl P w K mg base "_law_take" ["box", "many"] [] 1 spTake) (n_range : mg "range" = none) (n_tuple : mg "tuple" = none) : FnOk P w K mg base CX0 3 f fd ["box", "names", "most"] spTale := by
  refine F.ok sc__law_tale (fun vs H Q E h => ?_) (fun cdv A outer s H vs Q E hr h => ?_)
  · obtain ⟨_, _, _, rfl, _⟩ := h
    rfl
  · obtain ⟨p, l, ns, rfl, hb, hl, lp, ok, q⟩ := h
    refine ⟨_, (pss_cons (ps_set (i := 3) sc__law_tale.nd rfl (Or.inl rfl) (pe_lst pa_nil))
    (Evl.pss_cut (ps_for PassesOwn.never rfl (pi_range1 (by rfl) n_range (pa_cons (pe_use C__law_take (hr.mono (by decide)) rfl (pa_cons (pv 0) (pa_cons (pe_op op_add (pv 2) pe_int) pa_nil))) pa_nil)) (pg_name (i := 4) sc__law_tale.nd rfl (Or.inl rfl))
      (Evl.pss_cut (ps_setLc (i := 5) (own := [("name", 6)]) (g := gName 6) (by rfl) sc__law_tale.nd rfl rfl (sw_true rfl rfl rfl (by decide +kernel)) (pi_seq (pv 1)) (blkOk_by (N := ["box", "names", "most", "found", "turn", "lot", "name"]) (sc := defScope s__law_tale) (by decide +kernel)) (fun _ _ _ _ _ => pg_name (i := 6) sc__law_tale.nd rfl (Or.inl rfl)) (fun _ _ _ _ _ => pts_one (pt_cmpR op_eq (pe_use C__law_take (hr.mono (by decide)) rfl (pa_cons (pv 0) (pa_cons pe_int pa_nil))) pe_int (nomark _))) (fun _ _ _ _ _ => pv 6))
    (Evl.pss_cut (ps_if (PW.pt (pw_or (pt_cmpR (op_eqD hr.units) (pv 5) (pe_lst pa_nil) (nomark _)) (pw_or1 (pt_cmpR op_eq (pe_use C__law_take (hr.mono (by decide)) rfl (pa_cons (pv 0) (pa_cons pe_int pa_nil))) pe_int (nomark _))))) (pss_one (ps_set (i := 5) sc__law_tale.nd rfl (Or.inl rfl) (pe_lst (pa_cons (pe_use C__law_pick (hr.mono (by decide)) rfl (pa_cons (pv 0) (pa_cons (pv 1) pa_nil))) pa_nil)))) pss_nil)
    (pss_one (ps_expr (pe_bm PySem.F.plainAttrs_list PySem.F.slot_list_append PySem.F.type_list_append mt_append (pv 3) (pa_cons (pe_callTy call_tuple_of (by rfl) n_tuple (by decide +kernel) (pa_cons (pv 5) pa_nil)) pa_nil)))))))
    (pss_one (ps_ret (pe_callTy call_tuple_of (by rfl) n_tuple (by decide +kernel) (pa_cons (pv 3) pa_nil)))))), ?_⟩
    refine ⟨by show 0 ≤ sizeLine; decide, fun tp ktp => ?_⟩
    have tpp : tp ≠ p := hb.ne ktp
    have s1 := same_new ktp (.lst [])
    have etp : upd H tp (.lst []) tp = some (.lst []) := upd_same
    have b1 := hb.same s1
    have hl1 := s1 _ _ hl
    have ltp : l ≠ tp := ne_of_none hl ktp
    have kin : ∀ H', KeptT p tp (upd H tp (.lst [])) H' → Kept p H H' := fun H' k b o e x => k b o (s1 _ _ e) x (ne_of_none e ktp)
    generalize upd H tp (.lst []) = H1 at s1 etp b1 hl1 kin ⊢
    let St : L2.St → Prop := fun σ => ∃ o4 o5 o6, σ = [some (.ref p), some (.ref l), some (.int 7), some (.ref tp), o4, o5, o6]
    let Inv : Hp → Nat → Prop := fun H' n => ∃ its tl, KeptT p tp H1 H' ∧ BoxAt H' p ∧ H' tp = some (.lst its) ∧ All2 (LotH H') its tl ∧ TlIn ns tl ∧ tl.length = n
    refine ⟨fun σ H' => St σ ∧ ∃ n, Inv H' n ∧ n ≤ 7, ?_, ?_⟩
    · refine ⟨_, rfl, _, rfl, _, _, rfl, rfl, p, 8, rfl, ⟨by decide, by decide⟩, b1, fun d H2 d0 d1 k2 b2 => ?_⟩
      refine ⟨d, rfl, by omega, by omega, ?_⟩
      refine for_sq (wk_range (a := tp)) (fun i σ H' => St σ ∧ Inv H' i) ⟨⟨none, none, none, rfl⟩, [], [], fun b o e x _ => k2 b o e x, b2, k2 _ _ etp tpp, .nil, tlIn_iff.mpr (fun x hx => by cases hx), rfl⟩ (fun _ _ _ _ => trivial) ?_ ?_
      · rintro i σ H3 x ex ⟨⟨o4, o5, o6, rfl⟩, its, tl, k3, b3, et3, al3, okl, ln⟩
        have hi : i < d.toNat := by
          have := (List.getElem?_eq_some_iff.mp ex).1
          rw [List.length_map, List.length_range] at this
          omega
        have hn3 : H3 l = some (.lst (ns.map V.str)) := k3 _ _ hl1 lp ltp
        refine ⟨fun σ H' => ∃ (D : Addr) (xs : List Str) (o6 : Option V), σ = [some (.ref p), some (.ref l), some (.int 7), some (.ref tp), some x, some (.ref D), o6] ∧ D ≠ p ∧ Kept p H3 H' ∧ BoxAt H' p ∧ H' D = some (.lst (xs.map V.str)) ∧ xs.Sublist ns, ?_, ?_⟩
        refine ⟨_, rfl, l, _, rfl, SqX.lst hn3, fun J S W z0 D hD => ?_⟩
        have Dp_ : D ≠ p := b3.ne hD
        have Dt : D ≠ tp := (ne_of_none et3 hD).symm
        have Dl : l ≠ D := ne_of_none hn3 hD
        refine lc_go W (fun j H' => KeptT p D H3 H' ∧ BoxAt H' p ∧ ∃ xs : List Str, H' D = some (.lst (xs.map V.str)) ∧ xs.Sublist (ns.take j)) ⟨fun b o e _ m => by rw [upd_ne m]; exact e, b3.put Dp_, [], upd_same, List.nil_sublist _⟩ (fun j H' m => W.keep (fun o e => by rw [hn3] at e; cases e; exact m.1 _ _ hn3 lp Dl) z0) ?_ ?_
        · rintro j y H4 ey ⟨k4, b4, xs, eD, sub⟩
          obtain ⟨nm, en, rfl⟩ := str_at ey
          refine ⟨rfl, _, rfl, p, 3, rfl, ⟨by decide, by decide⟩, b4, fun d' H5 _ _ k5 b5 => ?_⟩
          have eD5 := k5 _ _ eD Dp_
          have lx : xs.length ≤ 4 := Nat.le_trans sub.length_le (Nat.le_trans (List.length_take_le' ..) ok.ln)
          refine ⟨rfl, _, rfl, iteD (fun c => ⟨_, rfl, _, eD5, by rw [List.length_map, sizeLine_eq]; omega, (k4.kept k5).put, b5.put Dp_, xs ++ [nm], by rw [upd_same, List.map_append]; rfl, sub_yes sub en⟩) fun c => ⟨k4.kept k5, b5, xs, eD5, sub_no sub⟩⟩
        · rintro H4 ⟨k4, b4, xs, eD, sub⟩
          rw [List.length_map, List.take_length] at sub
          exact ⟨D, xs, _, rfl, Dp_, fun b o e n => k4 b o e n (ne_of_none e hD), b4, eD, sub⟩
        · rintro σ H4 ⟨D, xs, o6, rfl, Dp_, k34, b4, eD, sub⟩
          have asc := ok.asc.sublist sub
          have inn : ∀ x ∈ xs, x ∈ ns := fun x hx => sub.subset hx
          have lx : xs.length ≤ 4 := Nat.le_trans sub.length_le ok.ln
          refine ⟨fun σ H' => ∃ (dd : Addr) (lot : List Str), σ = [some (.ref p), some (.ref l), some (.int 7), some (.ref tp), some x, some (.ref dd), o6] ∧ Kept p H3 H' ∧ BoxAt H' p ∧ H' dd = some (.lst (lot.map V.str)) ∧ LotIn ns lot, ?_, ?_⟩
          · have one : ∀ H5, Kept p H3 H5 → BoxAt H5 p → spPick K [.ref p, .ref l] H5 (fun v H6 => 1 ≤ sizeLine ∧ ∀ t, H6 t = none → ∃ (dd : Addr) (lot : List Str), [some (.ref p), some (.ref l), some (.int 7), some (.ref tp), some x, some (V.ref t), o6] = [some (.ref p), some (.ref l), some (.int 7), some (.ref tp), some x, some (.ref dd), o6] ∧ Kept p H3 (upd H6 t (.lst [v])) ∧ BoxAt (upd H6 t (.lst [v])) p ∧ upd H6 t (.lst [v]) dd = some (.lst (lot.map V.str)) ∧ LotIn ns lot) fun _ _ _ => False := fun H5 k5 b5 => by
              refine ⟨p, l, _, rfl, b5, k5 _ _ hn3 lp, lp, ⟨by rw [List.length_map]; have := List.length_pos_iff.mpr ok.ne; omega, by rw [List.length_map]; have := ok.ln; omega⟩, fun v H6 mv k6 b6 => ⟨by decide, fun t kt => ?_⟩⟩
              obtain ⟨nm, hnm, rfl⟩ := List.mem_map.mp mv
              exact ⟨t, [nm], rfl, (k5.trans k6).sm (same_new kt _), b6.same (same_new kt _), upd_same, lotIn_one hnm⟩
            refine ⟨_, rfl, by show 0 ≤ sizeLine; decide, fun t7 kt7 => ?_⟩
            have s7 := same_new kt7 (.lst [])
            have e7 : upd H4 t7 (.lst []) t7 = some (.lst []) := upd_same
            generalize upd H4 t7 (.lst []) = H7 at s7 e7 ⊢
            have b7 := b4.same s7
            have k7 := k34.sm s7
            refine ⟨.list (xs.map .str), .list [], .lst (SqL.of (s7 _ _ eD)) (dp_strs xs), .lst (SqL.of e7) .nil, (sh_lst (n := 0) fun x hx => sh_str (ok.nm x (inn x hx))).ok (by decide), by decide, _, rfl, ?_⟩
            rw [eqv_nilL]
            by_cases c1 : xs = []
            · subst c1
              rw [decide_eq_true (by rfl)]
              exact iteT (iteT ⟨_, rfl, _, rfl, one _ k7 b7⟩)
            · rw [decide_eq_false (by rw [List.map_eq_nil_iff]; exact c1)]
              refine iteF ⟨_, rfl, p, 2, rfl, ⟨by decide, by decide⟩, b7, fun fm H8 _ _ k8 b8 => ⟨rfl, _, rfl, ?_⟩⟩
              by_cases c2 : fm = 0
              · rw [decide_eq_true (by rw [c2])]
                exact iteT ⟨_, rfl, _, rfl, one _ (k7.trans k8) b8⟩
              · rw [decide_eq_false (fun e => c2 (by injection e))]
                exact iteF ⟨D, xs, rfl, k7.trans k8, b8, k8 _ _ (s7 _ _ eD) Dp_, c1, asc, inn⟩
          · rintro σ H7 ⟨dd, lot, rfl, k7, b7, ed, lo⟩
            have et7 : H7 tp = some (.lst its) := k7 _ _ et3 tpp
            refine ⟨_, rfl, .inl ⟨rfl, _, SqL.of et7⟩, _, rfl, dd, _, rfl, .inl ⟨SqL.of ed, fun tq ktq => ?_⟩⟩
            have s8 := same_new ktq (.tup (lot.map V.str))
            have e8 : upd H7 tq (.tup (lot.map V.str)) tq = some (.tup (lot.map V.str)) := upd_same
            generalize upd H7 tq (.tup (lot.map V.str)) = H8 at s8 e8 ⊢
            have et8 := s8 _ _ et7
            refine ⟨tp, its, .ref tq, rfl, rfl, et8, ?_, ⟨_, _, _, rfl⟩, its ++ [.ref tq], tl ++ [lot], ((k3.kept k7).kept (kept_same s8)).put, (b7.same s8).put tpp, upd_same, ?_, ?_, by rw [List.length_append, ln]; rfl⟩
            · have := al3.len; rw [sizeLine_eq]; omega
            · exact (((al3.imp fun _ _ t => t.kept b3 k7).imp fun _ _ t => t.same s8).imp fun _ _ t => t.put et8).app (.cons (LotH.put ⟨tq, rfl, e8⟩ et8) .nil)
            · refine tlIn_iff.mpr fun x hx => ?_
              rcases List.mem_append.mp hx with h | h
              · exact tlIn_iff.mp okl x h
              · rw [List.mem_singleton.mp h]; exact lo
      · rintro σ H3 ⟨st, iv⟩
        rw [List.length_map, List.length_range] at iv
        exact ⟨st, _, iv, by omega⟩
    rintro σ H2 ⟨⟨o4, o5, o6, rfl⟩, n, ⟨its, tl, k2, b2, et2, al, okl, ln⟩, nm⟩
    refine ⟨_, rfl, tp, its, rfl, .inl ⟨SqL.of et2, fun t kt => ?_⟩⟩
    have s3 := same_new kt (.tup its)
    exact q t tl _ ((kin _ k2).sm s3) (b2.same s3) ⟨t, its, rfl, upd_same, al.imp fun _ _ r => r.same s3⟩ okl (by omega)
end
end K6

namespace K6
open PySem PySem.Spec PyProof.Rows L2 Hb St Sq Ow En Zp RZ Rd Xb Da Lo Cq LamX Lc Lp Lg
/-! ### cuts of lists -/
def cutN {α : Type} (xs : List α) (i j : Option Nat) : List α := match j with
  | some j => (xs.take j).drop (i.getD 0)
  | none => xs.drop (i.getD 0)
theorem cutV_N (xs : List V) (i j : Option Nat) : cutV xs (i.map fun n => ((n : Nat) : Int)) (j.map fun n => ((n : Nat) : Int)) = cutN xs i j := by
  have hi : HT.sIx xs.length 0 (i.map fun n => ((n : Nat) : Int)) = min (i.getD 0) xs.length := by
    cases i with
    | none => show HT.sIx _ _ none = _; rw [HT.sIx_none]; simp
    | some i => exact HT.sIx_nat _ _ _
  have dr : xs.drop (min (i.getD 0) xs.length) = xs.drop (i.getD 0) := by
    rcases Nat.le_total (i.getD 0) xs.length with h | h
    · rw [Nat.min_eq_left h]
    · rw [Nat.min_eq_right h, List.drop_length, List.drop_eq_nil_of_le h]
  unfold cutV
  rw [hi, dr]
  cases j with
  | none =>
    show (xs.drop _).take (HT.sIx xs.length xs.length none - _) = xs.drop _
    rw [HT.sIx_none, List.take_of_length_le]
    rw [List.length_drop]; omega
  | some j =>
    show (xs.drop _).take (HT.sIx xs.length xs.length (some (j : Int)) - _) = (xs.take j).drop _
    rw [HT.sIx_nat, List.drop_take]
    rcases Nat.le_total (i.getD 0) xs.length with h | h
    · rcases Nat.le_total j xs.length with g | g
      · rw [Nat.min_eq_left g, Nat.min_eq_left h]
      · rw [Nat.min_eq_right g, Nat.min_eq_left h, List.take_of_length_le (by rw [List.length_drop]; omega), List.take_of_length_le (by rw [List.length_drop]; omega)]
    · rw [List.drop_eq_nil_of_le h]; simp
theorem cutN_mem {α : Type} {xs : List α} {i j : Option Nat} {x : α} (h : x ∈ cutN xs i j) : x ∈ xs := by
  unfold cutN at h
  cases j with
  | none => exact List.mem_of_mem_drop h
  | some j => exact List.mem_of_mem_take (List.mem_of_mem_drop h)
theorem cutN_all {α β : Type} {R : α → β → Prop} {xs : List α} {ys : List β} (h : All2 R xs ys) (i j : Option Nat) : All2 R (cutN xs i j) (cutN ys i j) := by
  unfold cutN
  cases j with
  | none => exact h.drop _
  | some j => exact (h.take j).drop _
theorem cutN_map {α β : Type} (f : α → β) (xs : List α) (i j : Option Nat) : cutN (xs.map f) i j = (cutN xs i j).map f := by
  unfold cutN
  cases j with
  | none => rw [List.map_drop]
  | some j => rw [List.map_drop, List.map_take]
section
variable {K : PySem.W.Frag} {H : Hp} {Q : VK}
theorem rd_slLos {a : Addr} {tl : List Lot} (i j : Option Nat) {lo hi : Option Int} (elo : lo = i.map fun n => ((n : Nat) : Int)) (ehi : hi = j.map fun n => ((n : Nat) : Int)) (h : LosH H a tl) (q : ∀ p H', Same H H' → LosH H' p (cutN tl i j) → Q (.ref p) H') : rSlL K (.ref a) lo hi H Q := by
  subst elo ehi
  obtain ⟨its, e, al⟩ := h
  refine ⟨a, its, rfl, SqL.of e, fun p hp => ?_⟩
  rw [cutV_N]
  have s := same_new hp (.lst (cutN its i j))
  exact q p _ s ⟨_, upd_same, (cutN_all al i j).imp fun _ _ r => r.same s⟩
theorem rd_catLos {a b : Addr} {t u : List Lot} (h1 : LosH H a t) (h2 : LosH H b u) (l : t.length + u.length ≤ 1000) (q : ∀ p H', Same H H' → LosH H' p (t ++ u) → Q (.ref p) H') : rCat (.ref a) (.ref b) H Q := by
  obtain ⟨its, e, al⟩ := h1
  obtain ⟨jts, f, bl⟩ := h2
  refine ⟨a, b, its, jts, rfl, rfl, e, f, by rw [al.len, bl.len, sizeLine_eq]; omega, fun p hp => ?_⟩
  have s := same_new hp (.lst (its ++ jts))
  exact q p _ s ⟨_, upd_same, (al.app bl).imp fun _ _ r => r.same s⟩
end
theorem LosH.new {H : Hp} {p : Addr} {its : List V} {tl : List Lot} (hp : H p = none) (al : All2 (LotH H) its tl) : LosH (upd H p (.lst its)) p tl := ⟨its, upd_same, al.imp fun _ _ r => r.same (same_new hp _)⟩
theorem los_ne {H : Hp} {r p : Addr} {tl : List Lot} (h : LosH H r tl) (b : BoxAt H p) : r ≠ p := fun z => by
  obtain ⟨_, _, _, e, _, _⟩ := b
  obtain ⟨kts, e2, al2⟩ := h
  rw [z, e] at e2
  cases e2
  cases al2 with
  | cons h _ => obtain ⟨_, h, _⟩ := h; cases h
theorem lotS_in {ns l m : List Str} (hl : LotIn ns l) (hm : LotIn ns m) : LotIn ns (lotS (l ++ m)) := by
  refine ⟨fun z => ?_, asc_lotS _, fun x hx => ?_⟩
  · cases l with
    | nil => exact hl.1 rfl
    | cons x r =>
      have : x ∈ lotS ((x :: r) ++ m) := mem_lotS.mpr (.head _)
      rw [z] at this; cases this
  · rcases List.mem_append.mp (mem_lotS.mp hx) with h | h
    · exact hl.2.2 x h
    · exact hm.2.2 x h
section
variable {P : Program} {w : World} {K : PySem.W.Frag} {mg : Str → Option Value} {base : Heap}
/-! ### _law_changed -/
abbrev s__law_changed : Stmt := top 44
theorem sc__law_changed : FnScope ["box", "tale", "names", "rows", "turn", "kind", "at", "lot"] ["box", "tale", "names"] (defScope s__law_changed) := ⟨rfl, rfl, rfl, by decide +kernel, rfl, by decide +kernel, by decide +kernel⟩
def spChanged (K : PySem.W.Frag) : Sp := fun vs H Q _ => ∃ (p l : Addr) (v : V) (ns : List Str) (tl : Tale), vs = [.ref p, v, .ref l] ∧ BoxAt H p ∧ TalH H v tl ∧ TlIn ns tl ∧ tl.length ≤ 7 ∧ H l = some (.lst (ns.map V.str)) ∧ l ≠ p ∧ NsOk ns ∧ ∀ t tl H', Kept p H H' → BoxAt H' p → TalH H' (.ref t) tl → TlIn ns tl → tl.length ≤ 10 → Q (.ref t) H'
theorem ok_changed {f : Addr} {fd : FuncData} (F : Fun K "_law_changed" "_law_changed" s__law_changed f fd) (C__law_pick : Cl P w K mg base "_law_pick" ["box", "some"] [] 2 (spPick K)) (C__law_take : Cl P w K mg base "_law_take" ["box", "many"] [] 1 spTake) (n_len : mg "len" = none) (n_list : mg "list" = none) (n_max : mg "max" = none) (n_range : mg "range" = none) (n_set : mg "set" = none) (n_sorted : mg "sorted" = none) (n_tuple : mg "tuple" = none) : FnOk P w K mg base CX0 3 f fd ["box", "tale", "names"] (spChanged K) := by
  refine F.ok sc__law_changed (fun vs H Q E h => ?_) (fun cdv A outer s H vs Q E hr h => ?_)
  · obtain ⟨_, _, _, _, _, rfl, _⟩ := h
    rfl
  · obtain ⟨p, l, v, ns, tl, rfl, hb, ht, ti, tn, hl, lp, ok, q⟩ := h
    refine ⟨_, (pss_cons (ps_set (i := 3) sc__law_changed.nd rfl (Or.inl rfl) (pe_callTy call_list_of (by rfl) n_list (by decide +kernel) (pa_cons (pv 1) pa_nil)))
    (Evl.pss_cut (ps_for PassesOwn.never rfl (pi_range1 (by rfl) n_range (pa_cons (pe_op op_add pe_int (pe_use C__law_take (hr.mono (by decide)) rfl (pa_cons (pv 0) (pa_cons pe_int pa_nil)))) pa_nil)) (pg_name (i := 4) sc__law_changed.nd rfl (Or.inl rfl))
      (pss_cons (ps_par (i := 5) (j := 6) (by rfl) sc__law_changed.nd rfl rfl (by decide) rfl rfl (pa_cons (pe_use C__law_take (hr.mono (by decide)) rfl (pa_cons (pv 0) (pa_cons pe_int pa_nil))) (pa_cons (pe_use C__law_take (hr.mono (by decide)) rfl (pa_cons (pv 0) (pa_cons (pe_callB (call_max2 rfl) (by rfl) n_max PyProof.Rows.boot_max (pa_cons pe_int (pa_cons (pe_callB call_len_seq (by rfl) n_len PySem.boot_len (pa_cons (pv 3) pa_nil)) pa_nil))) pa_nil))) pa_nil)) (by rfl))
    (Evl.pss_cut (ps_set (i := 7) sc__law_changed.nd rfl (Or.inl rfl) (pe_ifExp (pt_cmpR op_lt (pv 6) (pe_callB call_len_seq (by rfl) n_len PySem.boot_len (pa_cons (pv 3) pa_nil)) (nomark _)) (pe_callTy call_list_of (by rfl) n_list (by decide +kernel) (pa_cons (pe_ix ix_list (pv 3) (pv 6) (fun _ _ => rfl)) pa_nil)) (pe_lst pa_nil)))
    (pss_one (ps_if (PW.pt (pw_or (pt_cmpR op_eq (pv 5) pe_int (nomark _)) (pw_or1 (pt_cmpR (op_eqD hr.units) (pv 7) (pe_lst pa_nil) (nomark _))))) (pss_one (ps_set (i := 3) sc__law_changed.nd rfl (Or.inl rfl) (pe_op op_cat (pe_op op_cat (pe_slice (r := rSlL K) sl_list (pv 3) po_none (po_some (pv 6))) (pe_lst (pa_cons (pe_tup (pa_cons (pe_use C__law_pick (hr.mono (by decide)) rfl (pa_cons (pv 0) (pa_cons (pv 2) pa_nil))) pa_nil)) pa_nil))) (pe_slice (r := rSlL K) sl_list (pv 3) (po_some (pv 6)) po_none)))) (pss_one (ps_if (pt_cmpR op_eq (pv 5) pe_int (nomark _)) (pss_one (ps_set (i := 3) sc__law_changed.nd rfl (Or.inl rfl) (pe_slice (r := rSlL K) sl_list (pv 3) po_none (po_some (pv 6))))) (pss_one (ps_if (pt_cmpR op_eq (pv 5) pe_int (nomark _)) (pss_one (ps_set (i := 3) sc__law_changed.nd rfl (Or.inl rfl) (pe_op op_cat (pe_op op_cat (pe_op op_cat (pe_slice (r := rSlL K) sl_list (pv 3) po_none (po_some (pv 6))) (pe_slice (r := rSlL K) sl_list (pv 3) (po_some (pe_op op_add (pv 6) pe_int)) (po_some (pe_op op_add (pv 6) pe_int)))) (pe_slice (r := rSlL K) sl_list (pv 3) (po_some (pv 6)) (po_some (pe_op op_add (pv 6) pe_int)))) (pe_slice (r := rSlL K) sl_list (pv 3) (po_some (pe_op op_add (pv 6) pe_int)) po_none)))) (pss_one (ps_if (PW.pt (pw_and (pt_cmpR op_eq (pv 5) pe_int (nomark _)) (pw_and1 (pt_cmpR op_lt (pe_op op_add (pv 6) pe_int) (pe_callB call_len_seq (by rfl) n_len PySem.boot_len (pa_cons (pv 3) pa_nil)) (nomark _))))) (pss_one (ps_set (i := 3) sc__law_changed.nd rfl (Or.inl rfl) (pe_op op_cat (pe_op op_cat (pe_slice (r := rSlL K) sl_list (pv 3) po_none (po_some (pv 6))) (pe_lst (pa_cons (pe_callTy call_tuple_of (by rfl) n_tuple (by decide +kernel) (pa_cons (pe_callB (cr_sorted2 rfl) (by rfl) n_sorted (by decide +kernel) (pa_cons (pe_callTy (cr_set rfl) (by rfl) n_set (by decide +kernel) (pa_cons (pe_op op_cat (pv 7) (pe_callTy call_list_of (by rfl) n_list (by decide +kernel) (pa_cons (pe_ix ix_list (pv 3) (pe_op op_add (pv 6) pe_int) (fun _ _ => rfl)) pa_nil))) pa_nil)) pa_nil)) pa_nil)) pa_nil))) (pe_slice (r := rSlL K) sl_list (pv 3) (po_some (pe_op op_add (pv 6) pe_int)) po_none)))) (pss_one (ps_if (PW.pt (pw_and (pt_cmpR op_eq (pv 5) pe_int (nomark _)) (pw_and1 (pt_cmpR op_gt (pe_callB call_len_seq (by rfl) n_len PySem.boot_len (pa_cons (pv 7) pa_nil)) pe_int (nomark _))))) (pss_one (ps_set (i := 3) sc__law_changed.nd rfl (Or.inl rfl) (pe_op op_cat (pe_op op_cat (pe_slice (r := rSlL K) sl_list (pv 3) po_none (po_some (pv 6))) (pe_lst (pa_cons (pe_callTy call_tuple_of (by rfl) n_tuple (by decide +kernel) (pa_cons (pe_slice (r := rSlL K) sl_list (pv 7) po_none (po_some pe_int)) pa_nil)) (pa_cons (pe_callTy call_tuple_of (by rfl) n_tuple (by decide +kernel) (pa_cons (pe_slice (r := rSlL K) sl_list (pv 7) (po_some pe_int) po_none) pa_nil)) pa_nil)))) (pe_slice (r := rSlL K) sl_list (pv 3) (po_some (pe_op op_add (pv 6) pe_int)) po_none)))) pss_nil)))))))))))))
    (pss_one (ps_ret (pe_callTy call_tuple_of (by rfl) n_tuple (by decide +kernel) (pa_cons (pv 3) pa_nil)))))), ?_⟩
    obtain ⟨a, its, rfl, ea, al⟩ := ht
    refine ⟨_, rfl, a, its, rfl, .inr (SqT.of ea), fun r0 kr0 => ?_⟩
    have h1 : LosH (upd H r0 (.lst its)) r0 tl := LosH.new kr0 al
    have s1 := same_new kr0 (.lst its)
    have b1 := hb.same s1
    have hl1 := s1 _ _ hl
    generalize upd H r0 (.lst its) = H1 at h1 s1 b1 hl1 ⊢
    let Inv : Hp → Addr → Nat → Prop := fun H' r n => ∃ tl, Kept p H1 H' ∧ BoxAt H' p ∧ LosH H' r tl ∧ TlIn ns tl ∧ tl.length ≤ 7 + n
    let S : L2.St → Addr → Prop := fun σ r => ∃ o4 o5 o6 o7, σ = [some (.ref p), some (.ref a), some (.ref l), some (.ref r), o4, o5, o6, o7]
    refine ⟨fun σ H' => ∃ r, S σ r ∧ Inv H' r 3, ?_, ?_⟩
    · refine ⟨_, rfl, p, 3, rfl, ⟨by decide, by decide⟩, b1, fun d H2 d0 d1 k2 b2 => ?_⟩
      refine ⟨_, _, rfl, rfl, ?_⟩
      refine ⟨_, rfl, by omega, by omega, ?_⟩
      have hn : (1 + d).toNat ≤ 3 := by omega
      obtain ⟨jts, ej, ajl⟩ := h1
      refine for_sq (wk_range (a := r0)) (fun i σ H' => i ≤ (1 + d).toNat ∧ ∃ r, S σ r ∧ Inv H' r i) ⟨Nat.zero_le _, r0, ⟨none, none, none, none, rfl⟩, tl, k2, b2, ?_, ti, tn⟩ (fun _ _ _ _ => trivial) ?_ ?_
      · exact ⟨jts, k2 _ _ ej (fun z => by obtain ⟨_, _, _, e, _⟩ := hb; rw [← z, kr0] at e; cases e), ajl.imp fun _ _ r => r.kept b1 k2⟩
      · rintro i σ H3 x ex ⟨hi, r, ⟨o4, o5, o6, o7, rfl⟩, tl, k3, b3, h3, ti, tn⟩
        have hi' : i < (1 + d).toNat := by
          have := (List.getElem?_eq_some_iff.mp ex).1
          rw [List.length_map, List.length_range] at this
          omega
        have rp : r ≠ p := los_ne h3 b3
        refine ⟨_, rfl, p, 6, rfl, ⟨by decide, by decide⟩, b3, fun kd H4 kd0 kd1 k4 b4 => ?_⟩
        have h4 : LosH H4 r tl := h3.kept rp k4 (b3.kept k4)
        obtain ⟨its4, e4, al4⟩ := id h4
        refine ⟨_, rfl, _, rfl, r, its4, rfl, .inl (SqL.of e4), _, _, rfl, p, _, rfl, ?_, b4, fun aa H5 a0 a1 k5 b5 => ?_⟩
        · rw [al4.len]; split <;> omega
        refine ⟨_, _, rfl, ?_⟩
        obtain ⟨n, rfl⟩ := Int.eq_ofNat_of_zero_le a0
        have h5 : LosH H5 r tl := h4.kept rp k5 (b4.kept k5)
        have k15 := (k3.trans k4).trans k5
        clear h4 e4 al4 a0 a1 k4 k5 b4
        obtain ⟨its5, e5, al5⟩ := id h5
        have fin : ∀ r' tl' H' o5 o6 o7, Kept p H5 H' → BoxAt H' p → LosH H' r' tl' → (∀ l ∈ tl', LotIn ns l) → tl'.length ≤ tl.length + 1 → i + 1 ≤ (1 + d).toNat ∧ ∃ r, S [some (.ref p), some (.ref a), some (.ref l), some (.ref r'), some x, o5, o6, o7] r ∧ Inv H' r (i + 1) :=
          fun r' tl' H' o5 o6 o7 k b h t n => ⟨hi', r', ⟨_, _, _, _, rfl⟩, tl', k15.trans k, b, h, tlIn_iff.mpr t, by omega⟩
        have mi : ∀ l ∈ tl, LotIn ns l := tlIn_iff.mp ti
        have tn' : tl.length ≤ 10 := by omega
        refine ⟨fun σ H' => ∃ D lot, σ = [some (.ref p), some (.ref a), some (.ref l), some (.ref r), some x, some (.int kd), some (.int (n : Nat)), some (.ref D)] ∧ Same H5 H' ∧ H' D = some (.lst (lot.map V.str)) ∧ ((lot = [] ∧ tl.length ≤ n) ∨ tl[n]? = some lot), ?_, ?_⟩
        · refine ⟨_, rfl, _, rfl, r, its5, rfl, .inl (SqL.of e5), _, _, rfl, rfl, _, rfl, ?_⟩
          rw [al5.len]
          by_cases c : n < tl.length
          · rw [decide_eq_true (by omega)]
            obtain ⟨lot, el⟩ : ∃ lot, tl[n]? = some lot := ⟨_, List.getElem?_eq_getElem c⟩
            obtain ⟨y, ey⟩ : ∃ y, its5[n]? = some y := ⟨_, List.getElem?_eq_getElem (by rw [al5.len]; exact c)⟩
            obtain ⟨lot', el', lb, rfl, elb⟩ := al5.get ey
            obtain rfl : lot' = lot := Option.some.inj (el'.symm.trans el)
            refine iteT ⟨_, rfl, _, rfl, r, its5, (n : Nat), _, rfl, rfl, SqL.of e5, atI_nat ey, lb, _, rfl, .inr (SqT.of elb), fun D kD => ?_⟩
            exact ⟨D, lot', rfl, same_new kD _, upd_same, .inr el⟩
          · rw [decide_eq_false (by omega)]
            exact iteF ⟨by show 0 ≤ sizeLine; decide, fun D kD => ⟨D, [], rfl, same_new kD _, upd_same, .inl ⟨rfl, by omega⟩⟩⟩
        rintro σ H6 ⟨D, lot, rfl, s6, eD, hlot⟩
        have h6 := h5.same s6
        have b6 := b5.same s6
        have k6 : Kept p H5 H6 := kept_same s6
        have hl6 : H6 l = some (.lst (ns.map V.str)) := k6 _ _ (k15 _ _ hl1 lp) lp
        have fin2 : ∀ r' tl' H', Kept p H6 H' → BoxAt H' p → LosH H' r' tl' → (∀ l ∈ tl', LotIn ns l) → tl'.length ≤ tl.length + 1 → i + 1 ≤ (1 + d).toNat ∧ ∃ r, S [some (.ref p), some (.ref a), some (.ref l), some (.ref r'), some x, some (.int kd), some (.int (n : Nat)), some (.ref D)] r ∧ Inv H' r (i + 1) :=
          fun r' tl' H' k => fin r' tl' H' _ _ _ (k6.trans k)
        have mc : ∀ i j, ∀ l ∈ cutN tl i j, LotIn ns l := fun i j l m => mi l (cutN_mem m)
        have n1 : some (((n : Nat) : Int) + 1) = (some (n + 1)).map fun n : Nat => ((n : Nat) : Int) := rfl
        have n2 : some (((n : Nat) : Int) + 2) = (some (n + 2)).map fun n : Nat => ((n : Nat) : Int) := rfl
        clear h5 al5 e5 k15 fin b5 k6
        by_cases c0 : kd = 0
        · subst c0
          refine ⟨_, rfl, rfl, _, rfl, ?_⟩
          rw [decide_eq_true (by rfl)]
          refine iteT (iteT ?_)
          refine ⟨_, rfl, _, rfl, _, rfl, rd_slLos none (some n) rfl rfl h6 fun p1 H7 s7 g1 => ?_⟩
          refine ⟨_, rfl, _, rfl, p, l, _, rfl, (b6).same s7, s7 _ _ (hl6), lp, ⟨by rw [List.length_map]; have := List.length_pos_iff.mpr ok.ne; omega, by rw [List.length_map]; have := ok.ln; omega⟩, fun v H8 mv k8 b8 => ⟨by show 1 ≤ sizeLine; decide, fun t8 kt8 => ⟨by show 1 ≤ sizeLine; decide, fun t9 kt9 => ?_⟩⟩⟩
          obtain ⟨nm, hnm, rfl⟩ := List.mem_map.mp mv
          have s9 := same_new kt8 (.tup [V.str nm])
          have g9 : LosH (upd (upd H8 t8 (.tup [V.str nm])) t9 (.lst [.ref t8])) t9 [[nm]] := LosH.new kt9 (.cons ⟨t8, rfl, upd_same⟩ .nil)
          have s10 := s9.trans (same_new kt9 (.lst [.ref t8]))
          generalize upd (upd H8 t8 (.tup [V.str nm])) t9 (.lst [.ref t8]) = H9 at g9 s10 ⊢
          have bp : ∀ {q : Addr} {t : List Lot}, LosH H7 q t → q ≠ p → LosH H9 q t := fun h n => (h.kept n k8 (((b6).same s7).kept k8)).same s10
          have p1p : p1 ≠ p := los_ne g1 (b6.same s7)
          have cl1 : (cutN tl none (some n)).length + (cutN tl (some n) none).length ≤ tl.length := by
            unfold cutN; simp only [Option.getD, List.drop_zero, List.length_take, List.length_drop]; omega
          refine rd_catLos (bp g1 p1p) g9 (by show _ + 1 ≤ _; omega) fun p3 H10 s11 g10 => ?_
          refine ⟨_, rfl, _, rfl, _, rfl, ?_⟩
          dsimp only [tNoPart]
          refine rd_slLos (some n) none rfl rfl ((bp (h6 |>.same s7) rp).same s11) fun p4 H11 s12 g11 => ?_
          refine rd_catLos (g10.same s12) g11 (by rw [List.length_append]; show _ + 1 + _ ≤ _; omega) fun p5 H12 s13 g12 => ?_
          refine fin2 p5 _ H12 ((((kept_same (Same.refl H6) : Kept p H6 H6)).trans (kept_same s7)).trans (k8.sm (((s10.trans s11).trans s12).trans s13))) (b8.same (((s10.trans s11).trans s12).trans s13)) g12 (fun y hy => ?_) (by rw [List.length_append, List.length_append]; show _ + 1 + _ ≤ _; omega)
          rcases List.mem_append.mp hy with hy | hy
          · rcases List.mem_append.mp hy with hy | hy
            · exact mc _ _ y hy
            · rw [List.mem_singleton.mp hy]; exact lotIn_one hnm
          · exact mc _ _ y hy
        refine ⟨_, rfl, rfl, _, rfl, ?_⟩
        rw [decide_eq_false (fun e => c0 (by injection e))]
        refine iteF ?_
        by_cases cl : lot = []
        · subst cl
          refine ⟨_, rfl, by show 0 ≤ sizeLine; decide, fun t7 kt7 => ?_⟩
          have s0 := same_new kt7 (.lst [])
          have e7 : upd H6 t7 (.lst []) t7 = some (.lst []) := upd_same
          generalize upd H6 t7 (.lst []) = H0 at s0 e7 ⊢
          refine ⟨.list [], .list [], .lst (SqL.of (s0 _ _ eD)) .nil, .lst (SqL.of e7) .nil, by decide, by decide, _, rfl, ?_⟩
          rw [eqv_nilL, decide_eq_true (by rfl)]
          refine iteT ?_
          refine ⟨_, rfl, _, rfl, _, rfl, rd_slLos none (some n) rfl rfl (h6.same s0) fun p1 H7 s7 g1 => ?_⟩
          refine ⟨_, rfl, _, rfl, p, l, _, rfl, (b6.same s0).same s7, s7 _ _ (s0 _ _ hl6), lp, ⟨by rw [List.length_map]; have := List.length_pos_iff.mpr ok.ne; omega, by rw [List.length_map]; have := ok.ln; omega⟩, fun v H8 mv k8 b8 => ⟨by show 1 ≤ sizeLine; decide, fun t8 kt8 => ⟨by show 1 ≤ sizeLine; decide, fun t9 kt9 => ?_⟩⟩⟩
          obtain ⟨nm, hnm, rfl⟩ := List.mem_map.mp mv
          have s9 := same_new kt8 (.tup [V.str nm])
          have g9 : LosH (upd (upd H8 t8 (.tup [V.str nm])) t9 (.lst [.ref t8])) t9 [[nm]] := LosH.new kt9 (.cons ⟨t8, rfl, upd_same⟩ .nil)
          have s10 := s9.trans (same_new kt9 (.lst [.ref t8]))
          generalize upd (upd H8 t8 (.tup [V.str nm])) t9 (.lst [.ref t8]) = H9 at g9 s10 ⊢
          have bp : ∀ {q : Addr} {t : List Lot}, LosH H7 q t → q ≠ p → LosH H9 q t := fun h n => (h.kept n k8 (((b6.same s0).same s7).kept k8)).same s10
          have p1p : p1 ≠ p := los_ne g1 ((b6.same s0).same s7)
          have cl1 : (cutN tl none (some n)).length + (cutN tl (some n) none).length ≤ tl.length := by
            unfold cutN; simp only [Option.getD, List.drop_zero, List.length_take, List.length_drop]; omega
          refine rd_catLos (bp g1 p1p) g9 (by show _ + 1 ≤ _; omega) fun p3 H10 s11 g10 => ?_
          refine ⟨_, rfl, _, rfl, _, rfl, ?_⟩
          dsimp only [tNoPart]
          refine rd_slLos (some n) none rfl rfl ((bp ((h6.same s0) |>.same s7) rp).same s11) fun p4 H11 s12 g11 => ?_
          refine rd_catLos (g10.same s12) g11 (by rw [List.length_append]; show _ + 1 + _ ≤ _; omega) fun p5 H12 s13 g12 => ?_
          refine fin2 p5 _ H12 ((((kept_same s0 : Kept p H6 H0)).trans (kept_same s7)).trans (k8.sm (((s10.trans s11).trans s12).trans s13))) (b8.same (((s10.trans s11).trans s12).trans s13)) g12 (fun y hy => ?_) (by rw [List.length_append, List.length_append]; show _ + 1 + _ ≤ _; omega)
          rcases List.mem_append.mp hy with hy | hy
          · rcases List.mem_append.mp hy with hy | hy
            · exact mc _ _ y hy
            · rw [List.mem_singleton.mp hy]; exact lotIn_one hnm
          · exact mc _ _ y hy
        have el : tl[n]? = some lot := by
          rcases hlot with ⟨z, _⟩ | h
          · exact absurd z cl
          · exact h
        have lo : LotIn ns lot := mi lot (at_mem el)
        have l4 := LotIn.len ok lo
        have nl : n < tl.length := (List.getElem?_eq_some_iff.mp el).1
        refine ⟨_, rfl, by show 0 ≤ sizeLine; decide, fun t7 kt7 => ?_⟩
        have s0 := same_new kt7 (.lst [])
        have e7 : upd H6 t7 (.lst []) t7 = some (.lst []) := upd_same
        generalize upd H6 t7 (.lst []) = H0 at s0 e7 ⊢
        refine ⟨.list (lot.map .str), .list [], .lst (SqL.of (s0 _ _ eD)) (dp_strs lot), .lst (SqL.of e7) .nil, (sh_lst (n := 0) fun x hx => sh_str (ok.nm x (lo.2.2 x hx))).ok (by decide), by decide, _, rfl, ?_⟩
        rw [eqv_nilL, decide_eq_false (by rw [List.map_eq_nil_iff]; exact cl)]
        refine iteF ?_
        have h0 := h6.same s0
        have eD0 := s0 _ _ eD
        have fin3 : ∀ r' tl' H', Same H0 H' → LosH H' r' tl' → (∀ l ∈ tl', LotIn ns l) → tl'.length ≤ tl.length + 1 → i + 1 ≤ (1 + d).toNat ∧ ∃ r, S [some (.ref p), some (.ref a), some (.ref l), some (.ref r'), some x, some (.int kd), some (.int (n : Nat)), some (.ref D)] r ∧ Inv H' r (i + 1) :=
          fun r' tl' H' s h t n => fin2 r' tl' H' (kept_same (s0.trans s)) (b6.same (s0.trans s)) h t n
        have b0 := b6.same s0
        clear hlot e7 kt7 eD h6 hl6 fin2 s0 b6
        refine ⟨_, rfl, rfl, _, rfl, ?_⟩
        by_cases c1 : kd = 1
        · subst c1
          rw [decide_eq_true (by rfl)]
          refine iteT ⟨_, rfl, _, rfl, _, rfl, rd_slLos none (some n) rfl rfl h0 fun p1 H7 s7 g1 => ?_⟩
          exact fin3 p1 _ H7 s7 g1 (mc _ _) (by unfold cutN; simp only [Option.getD, List.drop_zero, List.length_take]; omega)
        rw [decide_eq_false (fun e => c1 (by injection e))]
        refine iteF ⟨_, rfl, rfl, _, rfl, ?_⟩
        by_cases c2 : kd = 2
        · subst c2
          rw [decide_eq_true (by rfl)]
          refine iteT ⟨_, rfl, _, rfl, _, rfl, rd_slLos none (some n) rfl rfl h0 fun p1 H7 s7 g1 => ?_⟩
          refine ⟨_, rfl, _, rfl, _, _, rfl, rfl, _, rfl, _, rfl, _, _, rfl, rfl, _, rfl, rd_slLos (some (n + 1)) (some (n + 2)) n1 n2 (h0.same s7) fun p2 H8 s8 g2 => ?_⟩
          refine rd_catLos (g1.same s8) g2 ?_ fun p3 H9 s9 g3 => ?_
          · unfold cutN; simp only [Option.getD, List.drop_zero, List.length_take, List.length_drop]; omega
          have s79 := (s7.trans s8).trans s9
          refine ⟨_, rfl, _, rfl, _, rfl, _, rfl, _, _, rfl, rfl, _, rfl, rd_slLos (some n) (some (n + 1)) rfl n1 (h0.same s79) fun p4 H10 s10 g4 => ?_⟩
          refine rd_catLos (g3.same s10) g4 ?_ fun p5 H11 s11 g5 => ?_
          · unfold cutN; simp only [Option.getD, List.drop_zero, List.length_take, List.length_drop, List.length_append]; omega
          have s711 := (s79.trans s10).trans s11
          refine ⟨_, rfl, _, rfl, _, _, rfl, rfl, _, rfl, ?_⟩
          dsimp only [tNoPart]
          refine rd_slLos (some (n + 2)) none n2 rfl (h0.same s711) fun p6 H12 s12 g6 => ?_
          refine rd_catLos (g5.same s12) g6 ?_ fun p7 H13 s13 g7 => ?_
          · unfold cutN; simp only [Option.getD, List.drop_zero, List.length_take, List.length_drop, List.length_append]; omega
          refine fin3 p7 _ H13 ((s711.trans s12).trans s13) g7 (fun y hy => ?_) ?_
          · simp only [List.mem_append] at hy
            rcases hy with ((hy | hy) | hy) | hy <;> exact mc _ _ y hy
          · unfold cutN; simp only [Option.getD, List.drop_zero, List.length_take, List.length_drop, List.length_append]; omega
        rw [decide_eq_false (fun e => c2 (by injection e))]
        refine iteF ⟨_, rfl, rfl, _, rfl, ?_⟩
        have k4 : i + 1 ≤ (1 + d).toNat ∧ ∃ r2, S [some (.ref p), some (.ref a), some (.ref l), some (.ref r), some x, some (.int kd), some (.int (n : Nat)), some (.ref D)] r2 ∧ Inv H0 r2 (i + 1) := fin3 r tl H0 (Same.refl _) h0 mi (by omega)
        obtain ⟨its0, e0, al0⟩ := id h0
        by_cases c3 : kd = 3
        · subst c3
          rw [decide_eq_true (by rfl)]
          refine iteT ⟨_, rfl, _, _, rfl, rfl, _, rfl, r, its0, rfl, .inl (SqL.of e0), _, _, rfl, rfl, _, rfl, ?_⟩
          rw [al0.len]
          by_cases c : n + 1 < tl.length
          · rw [decide_eq_true (by omega)]
            obtain ⟨lot2, el2⟩ : ∃ lot2, tl[n + 1]? = some lot2 := ⟨_, List.getElem?_eq_getElem c⟩
            obtain ⟨y, ey⟩ : ∃ y, its0[n + 1]? = some y := ⟨_, List.getElem?_eq_getElem (by rw [al0.len]; exact c)⟩
            obtain ⟨lot', el', lb, rfl, elb⟩ := al0.get ey
            obtain rfl : lot' = lot2 := Option.some.inj (el'.symm.trans el2)
            have lo2 := mi lot' (at_mem el2)
            have l42 := LotIn.len ok lo2
            refine iteT ⟨_, rfl, _, rfl, _, rfl, rd_slLos none (some n) rfl rfl h0 fun p1 H7 s7 g1 => ?_⟩
            refine ⟨_, rfl, _, rfl, _, rfl, _, _, rfl, rfl, r, its0, ((n + 1 : Nat) : Int), _, rfl, rfl, SqL.of (s7 _ _ e0), atI_nat ey, lb, _, rfl, .inr (SqT.of (s7 _ _ elb)), fun q kq => ?_⟩
            have s8 := same_new kq (.lst (lot'.map V.str))
            have e8 : upd H7 q (.lst (lot'.map V.str)) q = some (.lst (lot'.map V.str)) := upd_same
            generalize upd H7 q (.lst (lot'.map V.str)) = H8 at s8 e8 ⊢
            refine ⟨D, q, _, _, rfl, rfl, (s7.trans s8) _ _ eD0, e8, by rw [List.length_map, List.length_map, sizeLine_eq]; omega, fun cc kcc => ?_⟩
            rw [← List.map_append]
            have s9 := same_new kcc (.lst ((lot ++ lot').map V.str))
            have e9 : upd H8 cc (.lst ((lot ++ lot').map V.str)) cc = some (.lst ((lot ++ lot').map V.str)) := upd_same
            generalize upd H8 cc (.lst ((lot ++ lot').map V.str)) = H9 at s9 e9 ⊢
            have hlm : (lot ++ lot').length ≤ 1000 := by rw [List.length_append]; omega
            dsimp only [tNil]
            unfold rSet
            refine .inl ⟨cc, lot ++ lot', rfl, SqX.lst e9, hlm, fun b m hb nd ml mm => ?_⟩
            unfold rSorted2
            refine .inl ⟨b, m, rfl, upd_same, Nat.le_trans ml hlm, fun ys pp pm so hp => ⟨pp, ys.map V.str, rfl, .inl ⟨SqL.of upd_same, fun u hu => ?_⟩⟩⟩
            have ee : ys = lotS (lot ++ lot') := lotS_eq (sorted_asc so (pm.nodup_iff.mpr nd)) fun x => pm.mem_iff.trans (mm x)
            subst ee
            change upd H9 b (SetT P w b m) pp = none at hp
            have s10 : Same H9 (upd (upd (upd H9 b (SetT P w b m)) pp (.lst ((lotS (lot ++ lot')).map V.str))) u (.tup ((lotS (lot ++ lot')).map V.str))) := ((same_new hb (SetT P w b m)).trans (same_new hp (.lst ((lotS (lot ++ lot')).map V.str)))).trans (same_new hu (.tup ((lotS (lot ++ lot')).map V.str)))
            change upd (upd H9 b (SetT P w b m)) pp (.lst ((lotS (lot ++ lot')).map V.str)) u = none at hu
            have e10 : upd (upd (upd H9 b (SetT P w b m)) pp (.lst ((lotS (lot ++ lot')).map V.str))) u (.tup ((lotS (lot ++ lot')).map V.str)) u = some (.tup ((lotS (lot ++ lot')).map V.str)) := upd_same
            dsimp only [cxOf, Cx.nox]
            generalize upd (upd (upd H9 b (SetT P w b m)) pp (.lst ((lotS (lot ++ lot')).map V.str))) u (.tup ((lotS (lot ++ lot')).map V.str)) = H10 at s10 e10 ⊢
            refine ⟨by show 1 ≤ sizeLine; decide, fun t9 kt9 => ?_⟩
            have g9 : LosH (upd H10 t9 (.lst [.ref u])) t9 [lotS (lot ++ lot')] := LosH.new kt9 (.cons ⟨u, rfl, e10⟩ .nil)
            have s11 := ((s8.trans s9).trans s10).trans (same_new kt9 (.lst [.ref u]))
            generalize upd H10 t9 (.lst [.ref u]) = H11 at g9 s11 ⊢
            refine rd_catLos (g1.same s11) g9 ?_ fun p3 H12 s12 g3 => ?_
            · unfold cutN; simp only [Option.getD, List.drop_zero, List.length_take, List.length_cons, List.length_nil]; omega
            have s712 := (s7.trans s11).trans s12
            refine ⟨_, rfl, _, rfl, _, _, rfl, rfl, _, rfl, ?_⟩
            dsimp only [tNoPart]
            refine rd_slLos (some (n + 2)) none n2 rfl (h0.same s712) fun p6 H13 s13 g6 => ?_
            refine rd_catLos (g3.same s13) g6 ?_ fun p7 H14 s14 g7 => ?_
            · unfold cutN; simp only [Option.getD, List.drop_zero, List.length_take, List.length_drop, List.length_append, List.length_cons, List.length_nil]; omega
            refine fin3 p7 _ H14 ((s712.trans s13).trans s14) g7 (fun y hy => ?_) ?_
            · simp only [List.mem_append] at hy
              rcases hy with (hy | hy) | hy
              · exact mc _ _ y hy
              · rw [List.mem_singleton.mp hy]; exact lotS_in lo lo2
              · exact mc _ _ y hy
            · unfold cutN; simp only [Option.getD, List.drop_zero, List.length_take, List.length_drop, List.length_append, List.length_cons, List.length_nil]; omega
          · rw [decide_eq_false (by omega)]
            exact iteF ⟨_, rfl, rfl, _, rfl, iteF (iteF k4)⟩
        rw [decide_eq_false (fun e => c3 (by injection e))]
        refine iteF (iteF ⟨_, rfl, rfl, _, rfl, ?_⟩)
        by_cases c4 : kd = 4
        · subst c4
          rw [decide_eq_true (by rfl)]
          refine iteT ⟨_, rfl, D, _, rfl, .inl (SqL.of eD0), _, _, rfl, rfl, _, rfl, ?_⟩
          rw [List.length_map]
          by_cases c : 1 < lot.length
          · rw [decide_eq_true (by omega)]
            refine iteT ⟨_, rfl, _, rfl, _, rfl, rd_slLos none (some n) rfl rfl h0 fun p1 H7 s7 g1 => ?_⟩
            refine ⟨_, rfl, _, rfl, D, _, rfl, SqL.of (s7 _ _ eD0), fun q kq => ?_⟩
            rw [show cutV (lot.map V.str) none (some 1) = (cutN lot none (some 1)).map V.str from (cutV_N _ none (some 1)).trans (cutN_map ..)]
            have s8 := same_new kq (.lst ((cutN lot none (some 1)).map V.str))
            refine ⟨q, _, rfl, .inl ⟨SqL.of upd_same, fun q1 kq1 => ?_⟩⟩
            have s9 := s8.trans (same_new kq1 (.tup ((cutN lot none (some 1)).map V.str)))
            have e9 : upd (upd H7 q (.lst ((cutN lot none (some 1)).map V.str))) q1 (.tup ((cutN lot none (some 1)).map V.str)) q1 = some (.tup ((cutN lot none (some 1)).map V.str)) := upd_same
            generalize upd (upd H7 q (.lst ((cutN lot none (some 1)).map V.str))) q1 (.tup ((cutN lot none (some 1)).map V.str)) = H9 at s9 e9 ⊢
            clear s8
            refine ⟨_, rfl, _, rfl, D, _, rfl, SqL.of ((s7.trans s9) _ _ eD0), fun q kq => ?_⟩
            rw [show cutV (lot.map V.str) (some 1) none = (cutN lot (some 1) none).map V.str from (cutV_N _ (some 1) none).trans (cutN_map ..)]
            have s10 := same_new kq (.lst ((cutN lot (some 1) none).map V.str))
            refine ⟨q, _, rfl, .inl ⟨SqL.of upd_same, fun q2 kq2 => ?_⟩⟩
            have s11 := s10.trans (same_new kq2 (.tup ((cutN lot (some 1) none).map V.str)))
            have e11 : upd (upd H9 q (.lst ((cutN lot (some 1) none).map V.str))) q2 (.tup ((cutN lot (some 1) none).map V.str)) q2 = some (.tup ((cutN lot (some 1) none).map V.str)) := upd_same
            generalize upd (upd H9 q (.lst ((cutN lot (some 1) none).map V.str))) q2 (.tup ((cutN lot (some 1) none).map V.str)) = H11 at s11 e11 ⊢
            clear s10
            refine ⟨by show 2 ≤ sizeLine; decide, fun t9 kt9 => ?_⟩
            have g9 : LosH (upd H11 t9 (.lst [.ref q1, .ref q2])) t9 [cutN lot none (some 1), cutN lot (some 1) none] := LosH.new kt9 (.cons ⟨q1, rfl, s11 _ _ e9⟩ (.cons ⟨q2, rfl, e11⟩ .nil))
            have s12 := (s9.trans s11).trans (same_new kt9 (.lst [.ref q1, .ref q2]))
            generalize upd H11 t9 (.lst [.ref q1, .ref q2]) = H12 at g9 s12 ⊢
            refine rd_catLos (g1.same s12) g9 ?_ fun p3 H13 s13 g3 => ?_
            · unfold cutN; simp only [Option.getD, List.drop_zero, List.length_take, List.length_cons, List.length_nil]; omega
            have s713 := (s7.trans s12).trans s13
            refine ⟨_, rfl, _, rfl, _, _, rfl, rfl, _, rfl, ?_⟩
            dsimp only [tNoPart]
            refine rd_slLos (some (n + 1)) none n1 rfl (h0.same s713) fun p6 H14 s14 g6 => ?_
            refine rd_catLos (g3.same s14) g6 ?_ fun p7 H15 s15 g7 => ?_
            · unfold cutN; simp only [Option.getD, List.drop_zero, List.length_take, List.length_drop, List.length_append, List.length_cons, List.length_nil]; omega
            refine fin3 p7 _ H15 ((s713.trans s14).trans s15) g7 (fun y hy => ?_) ?_
            · simp only [List.mem_append] at hy
              rcases hy with (hy | hy) | hy
              · exact mc _ _ y hy
              · have sub : ∀ m : List Str, m.Sublist lot → m ≠ [] → LotIn ns m := fun m sb ne => ⟨ne, lo.2.1.sublist sb, fun x hx => lo.2.2 x (sb.subset hx)⟩
                simp only [List.mem_cons, List.not_mem_nil, or_false] at hy
                rcases hy with rfl | rfl
                · exact sub _ (List.take_sublist _ _) fun z => by have := congrArg List.length z; simp [cutN] at this; exact cl this
                · exact sub _ (List.drop_sublist _ _) fun z => by have := congrArg List.length z; simp [cutN] at this; omega
              · exact mc _ _ y hy
            · unfold cutN; simp only [Option.getD, List.drop_zero, List.length_take, List.length_drop, List.length_append, List.length_cons, List.length_nil]; omega
          · rw [decide_eq_false (by omega)]
            exact iteF k4
        rw [decide_eq_false (fun e => c4 (by injection e))]
        exact iteF (iteF k4)
      · rintro σ H3 ⟨hi, r, st, tl, k3, b3, h3, ti, tn⟩
        rw [List.length_map, List.length_range] at tn
        exact ⟨r, st, tl, k3, b3, h3, ti, by omega⟩
    rintro σ H2 ⟨r, ⟨o4, o5, o6, o7, rfl⟩, tl, k2, b2, ⟨its, e2, al2⟩, ti, tn⟩
    refine ⟨_, rfl, r, its, rfl, .inl ⟨SqL.of e2, fun t kt => ?_⟩⟩
    have s3 := same_new kt (.tup its)
    exact q t tl _ (fun b o e n => s3 _ _ (k2 _ _ (s1 _ _ e) n)) (b2.same s3) ⟨t, its, rfl, upd_same, al2.imp fun _ _ r => r.same s3⟩ ti tn
end
end K6

namespace K6
open PySem PySem.Spec PyProof.Rows L2 Hb St Sq Ow En Zp RZ Rd Xb Da Lo Cq LamX Lc Lp Lg Sk
theorem nm_B {x : Str} (h : IsNm x) : nmB x = true := by
  unfold nmB
  rw [decide_eq_true h.2.1, nm_ascii h, nm_alpha h, nm_lower h]; rfl
theorem asc_D : ∀ l : List Str, l.Pairwise sLt → ascD (l.map .str) = true
  | [], _ => rfl
  | [_], _ => rfl
  | x :: y :: r, h => by
    obtain ⟨h1, h2⟩ := List.pairwise_cons.mp h
    show (decide (x.cps.toList < y.cps.toList) && ascD ((y :: r).map .str)) = true
    rw [asc_D (y :: r) h2, decide_eq_true (show x.cps.toList < y.cps.toList from h1 y List.mem_cons_self)]; rfl
theorem lot_D {nms l : List Str} (nok : NsOk nms) (h : LotIn nms l) : lotD (lD l) = true := by
  obtain ⟨h1, h2, h3⟩ := h
  show (!(l.map PyData.str).isEmpty && ((l.map PyData.str).all nmD && ascD (l.map .str))) = true
  have e1 : (l.map PyData.str).isEmpty = false := by cases l with | nil => exact absurd rfl h1 | cons _ _ => rfl
  have e2 : (l.map PyData.str).all nmD = true := by
    rw [List.all_map, List.all_eq_true]
    exact fun x hx => nm_B (nok.nm x (h3 x hx))
  rw [e1, e2, asc_D l h2]; rfl
theorem tale_D {nms : List Str} {ls : Tale} (nok : NsOk nms) (h : TlIn nms ls) : taleD (tD ls) = true := by
  show (ls.map lD).all lotD = true
  rw [List.all_map, List.all_eq_true]
  exact fun l hl => lot_D nok (tlIn_iff.mp h l hl)
theorem lot_sm {nms l : List Str} (nok : NsOk nms) (h : LotIn nms l) : Sm1 (lD l) := by
  refine ⟨by rw [List.length_map]; have := LotIn.len nok h; omega, fun d hd => ?_⟩
  obtain ⟨x, hx, rfl⟩ := List.mem_map.mp hd
  have := (nok.nm x (h.2.2 x hx)).2.1
  show x.length ≤ 1000
  omega
theorem tale_sm {nms : List Str} {ls : Tale} (nok : NsOk nms) (h : TlIn nms ls) (n : ls.length ≤ 1000) : Sm2 (tD ls) := by
  refine ⟨by rw [List.length_map]; exact n, fun d hd => ?_⟩
  obtain ⟨l, hl, rfl⟩ := List.mem_map.mp hd
  exact lot_sm nok (tlIn_iff.mp h l hl)
theorem no_first {d e : PyData} (h1 : taleD d = true) (h2 : taleD e = true) : firstNo [d, e] = none := by
  unfold firstNo
  rw [List.findIdx?_eq_none_iff]
  intro x hx
  simp only [List.mem_cons, List.not_mem_nil, or_false] at hx
  rcases hx with rfl | rfl
  · rw [h1]; rfl
  · rw [h2]; rfl
theorem first_0 {d e : PyData} (h1 : taleD d = false) : firstNo [d, e] = some 0 := by
  unfold firstNo
  rw [List.findIdx?_cons, h1]; rfl
theorem first_1 {d e : PyData} (h1 : taleD d = true) (h2 : taleD e = false) : firstNo [d, e] = some 1 := by
  unfold firstNo
  rw [List.findIdx?_cons, h1, List.findIdx?_cons, h2]; rfl
theorem notbl {xs : List V} : ∀ ps, HO.tup xs ≠ .tbl ps := fun ps z => by cases z
theorem notbl_l {xs : List V} : ∀ ps, HO.lst xs ≠ .tbl ps := fun ps z => by cases z
def KpX (p : Addr) (H H' : Hp) : Prop := ∀ b o, H b = some o → b ≠ p → (∀ ps, o ≠ .tbl ps) → H' b = some o
theorem KpX.trans {p : Addr} {H H1 H2 : Hp} (a : KpX p H H1) (b : KpX p H1 H2) : KpX p H H2 := fun c o e n t => b c o (a c o e n t) n t
theorem KpX.kept {p : Addr} {H H' : Hp} (k : Kept p H H') : KpX p H H' := fun b o e n _ => k b o e n
theorem KpX.same {p : Addr} {H H' : Hp} (k : Same H H') : KpX p H H' := fun b o e _ _ => k b o e
theorem KpX.ext {p : Addr} {H H' : Hp} (k : ExtN H H') : KpX p H H' := fun b o e _ t => k b o e t
/-- v holds d, wherever all but the box and the tables is as in H -/
def Nd (K : PySem.W.Frag) (p : Addr) (H : Hp) (v : V) (d : PyData) : Prop := ∀ H', KpX p H H' → Dp K H' v d
section
variable {K : PySem.W.Frag} {p : Addr} {H H' : Hp} {v : V} {d : PyData}
theorem Nd.on (n : Nd K p H v d) (k : KpX p H H') : Nd K p H' v d := fun H2 k2 => n H2 (k.trans k2)
theorem dpa_of {H : Hp} : ∀ {vs : List V} {ds : List PyData}, All2 (Dp K H) vs ds → DpAll K H vs ds
  | _, _, .nil => .nil
  | _, _, .cons h t => .cons h (dpa_of t)
theorem Nd.tup {a : Addr} {xs : List V} {ds : List PyData} (e : H a = some (.tup xs)) (hb : BoxAt H p) (al : All2 (Nd K p H) xs ds) : Nd K p H (.ref a) (.tuple ds) := fun H' k =>
  .tup (SqT.of (k _ _ e (hb.neT e) notbl)) (dpa_of (al.imp fun _ _ n => n H' k))
theorem Nd.lst {a : Addr} {xs : List V} {ds : List PyData} (e : H a = some (.lst xs)) (n1 : a ≠ p) (al : All2 (Nd K p H) xs ds) : Nd K p H (.ref a) (.list ds) := fun H' k =>
  .lst (SqL.of (k _ _ e n1 notbl_l)) (dpa_of (al.imp fun _ _ n => n H' k))
theorem nd_str (x : Str) : Nd K p H (.str x) (.str x) := fun _ _ => .str x
theorem nd_int (i : Int) : Nd K p H (.int i) (.int i) := fun _ _ => .int i
theorem nd_non : Nd K p H .non .none := fun _ _ => .non
theorem nd_strs : ∀ lot : List Str, All2 (Nd K p H) (lot.map V.str) (lot.map .str)
  | [] => .nil
  | x :: r => .cons (nd_str x) (nd_strs r)
theorem nd_lot {lot : List Str} (hb : BoxAt H p) (h : LotH H v lot) : Nd K p H v (lD lot) := by
  obtain ⟨b, rfl, e⟩ := h
  exact .tup e hb (nd_strs lot)
theorem nd_lots (hb : BoxAt H p) : ∀ {its : List V} {ls : Tale}, All2 (LotH H) its ls → All2 (Nd K p H) its (ls.map lD)
  | _, _, .nil => .nil
  | _, _, .cons h t => .cons (nd_lot hb h) (nd_lots hb t)
end
/-- no tale -/
structure BadOk (d : PyData) : Prop where
  nt : taleD d = false
  s2 : Sm2 d
/-- no lot -/
structure BadLot (d : PyData) : Prop where
  nl : lotD d = false
  s1 : Sm1 d
def shB : PyData → Bool
  | .str x => decide (x.length ≤ 1000)
  | _ => true
def sm1B : PyData → Bool
  | .tuple ds => decide (ds.length ≤ 1000) && ds.all shB
  | _ => true
def sm2B : PyData → Bool
  | .tuple ds => decide (ds.length ≤ 1000) && ds.all sm1B
  | _ => true
theorem sh_by : ∀ d : PyData, shB d = true → ShortD d
  | .str x, h => show x.length ≤ 1000 from of_decide_eq_true h
  | .int _, _ => trivial
  | .none, _ => trivial
  | .bool _, _ => trivial
  | .tuple _, _ => trivial
  | .list _, _ => trivial
  | .dict _, _ => trivial
theorem sm1_by : ∀ d : PyData, sm1B d = true → Sm1 d
  | .tuple ds, h => by
    have h : (decide (ds.length ≤ 1000) && ds.all shB) = true := h
    rw [Bool.and_eq_true, decide_eq_true_eq, List.all_eq_true] at h
    exact ⟨h.1, fun d hd => sh_by d (h.2 d hd)⟩
  | .int _, _ => trivial
  | .none, _ => trivial
  | .bool _, _ => trivial
  | .str _, _ => trivial
  | .list _, _ => trivial
  | .dict _, _ => trivial
theorem sm2_by : ∀ d : PyData, sm2B d = true → Sm2 d
  | .tuple ds, h => by
    have h : (decide (ds.length ≤ 1000) && ds.all sm1B) = true := h
    rw [Bool.and_eq_true, decide_eq_true_eq, List.all_eq_true] at h
    exact ⟨h.1, fun d hd => sm1_by d (h.2 d hd)⟩
  | .int _, _ => trivial
  | .none, _ => trivial
  | .bool _, _ => trivial
  | .str _, _ => trivial
  | .list _, _ => trivial
  | .dict _, _ => trivial
theorem bad_by {d : PyData} (h : (!taleD d && sm2B d) = true) : BadOk d := by
  simp only [Bool.and_eq_true, Bool.not_eq_true'] at h
  exact ⟨h.1, sm2_by d h.2⟩
theorem badl_by {d : PyData} (h : (!lotD d && sm1B d) = true) : BadLot d := by
  simp only [Bool.and_eq_true, Bool.not_eq_true'] at h
  exact ⟨h.1, sm1_by d h.2⟩
theorem bad_list (ds : List PyData) : BadOk (.list ds) := ⟨rfl, trivial⟩
theorem bad_more {nms : List Str} {ls : Tale} {d : PyData} (nok : NsOk nms) (h : TlIn nms ls) (n : ls.length ≤ 100) (b : BadLot d) : BadOk (.tuple (ls.map lD ++ [d])) := by
  refine ⟨?_, by rw [List.length_append, List.length_map]; show _ + 1 ≤ _; omega, fun x hx => ?_⟩
  · show (ls.map lD ++ [d]).all lotD = false
    rw [List.all_append, show [d].all lotD = false by show (lotD d && true) = false; rw [b.nl]; rfl, Bool.and_false]
  · rcases List.mem_append.mp hx with hx | hx
    · obtain ⟨l, hl, rfl⟩ := List.mem_map.mp hx
      exact lot_sm nok (tlIn_iff.mp h l hl)
    · rw [List.mem_singleton.mp hx]; exact b.s1
end K6

/-! several clauses "except x as n", all with one name; repr of ints and None -/
namespace Ty
open PySem PySem.Spec PyProof.Rows L2
abbrev Cls := Addr → Value → Option Addr → TS
def offEnds (D : Ends) (i : Nat) : Ends := { nx := fun τ G => D.nx (τ.set i none) G, rt := D.rt, bk := fun τ G => D.bk (τ.set i none) G, ct := fun τ G => D.ct (τ.set i none) G }
/-- what the clauses wish, one behind the other -/
def wAsM (K : PySem.W.Frag) (Wout : WX) (D : Ends) (i m : Nat) : List (Value × Cls) → WX
  | [] => Wout
  | (c, ts) :: r => fun cls d τ G => ∃ b, PySem.W.exmOne K cls c = some b ∧ (b = true → ∀ z, G z = none → τ.length = m → ts z cls d (offEnds D i) (τ.set i (some (.ref z))) G) ∧ (b = false → wAsM K Wout D i m r cls d τ G)
inductive CsOk (X : Cx) (n : Str) : List ExceptHandler → List (Value × Cls) → Prop
  | nil : CsOk X n [] []
  | cons {x : Str} {c : Value} {ts : Cls} {b₁ : Stmt} {rest : List Stmt} {np pp : Pos} {hds : List ExceptHandler} {l : List (Value × Cls)} (nm : Names X x c)
      (su : ∀ (z : Addr) (oz : Obj) (cls : Value) (d : Option Addr) (pn : List (Addr × Obj)), Zc cls d oz → (∃ vs, oz.data = .fields vs) → PSs (X.suite z ((z, oz) :: pn)) (b₁ :: rest) (ts z cls d)) (r : CsOk X n hds l) :
      CsOk X n (.ExceptHandler (some (.Name x np)) (some n) (b₁ :: rest) pp :: hds) ((c, ts) :: l)
section
variable {X : Cx} {n : Str} {i : Nat} {body : List Stmt} {hd₀ : ExceptHandler} {hds : List ExceptHandler} {l : List (Value × Cls)} {pos : Pos} {tb : WX → TS} {Wout : WX}
theorem ps_try_asM (stk : X.stack = X.env :: X.outer) (frm : X.env.frame = some X.env.locals) (nd : X.N.Nodup) (at_i : X.N[i]? = some n) (lcl : X.env.kindOf n = some .local) (tk : Takes X Wout)
    (bd : ∀ (W : WX) (pn : List (Addr × Obj)) (xe : Value → Shared → Prop), Takes (X.tr pn xe) W → PassesOwn (model X.prog X.w) X.A X.env xe → PSs (X.tr pn xe) body (tb W))
    (cl : CsOk X n (hd₀ :: hds) l) : PS X (.Try body (hd₀ :: hds) [] [] pos) (fun D τ G => tb (wAsM X.K Wout D i X.N.length l) D τ G) := by
  refine ⟨fun pin s τ G D I hw => ?_⟩
  have okX := I.ok
  have frs_ : X.A.frames = some (X.env :: X.outer) := by rw [okX.frames, stk]
  have nloc : Loc X.env.scope n := .inl lcl
  refine wpAny_Try_except ?_
  refine wpAny_mono ((bd (wAsM X.K Wout D i X.N.length l) (X.pn ++ pin) (fun e u₁ => wpAny (model X.prog X.w) X.A (noteFrame e X.env) (fun _ u₂ => wpAny (model X.prog X.w) X.A (setFlight e none) (fun _ u₃ =>
    wpAny (model X.prog X.w) X.A (handleBy e X.env (hd₀ :: hds)) (SP X pin D) X.xe u₃) X.xe u₂) X.xe u₁) (fun u v xx => ?_) PassesOwn.looking).run [] s τ G D (I.toTry _) hw) (fun f s1 out => ?_) (fun _ _ z => z)
  · obtain ⟨z, B, sI, pin', τ', G', cls, d, rfl, J', nb, up, sky, na, os, ag, w⟩ := xx
    have J : Inv X pin τ' G' sI := J'.ofTry okX
    have sky2 : Sky B (X.env :: X.outer) z (Zc cls d) X.env.locals v.heap := by rw [← stk]; exact sky
    show wpAny (model X.prog X.w) X.A (noteFrame (.ref z) X.env) _ _ _
    refine Sky.land Zc.steady frs_ frm sky2 fun g3 fl3 up3 => ?_
    have J3 : Inv X pin τ' G' { v with heap := g3 } := J.landed nb fl3.1 (up.trans up3) os ag
    obtain ⟨oz3, _, ez3, hz3, dz3⟩ := fl3.there
    have away : z ∉ frs (X.env :: X.outer) := fun hm => by
      obtain ⟨_, o', e', nf⟩ := fl3.2.2.1.mem hm
      rw [ez3] at e'; cases e'
      exact nf _ dz3
    have nL : z ≠ X.env.locals := fun q => away (List.mem_filterMap.mpr ⟨X.env, List.mem_cons_self, by rw [frm, q]⟩)
    have nF : z ∉ X.fs := fun hm => by
      obtain ⟨e, he, q⟩ := List.mem_filterMap.mp hm
      exact away (List.mem_filterMap.mpr ⟨e, List.mem_cons_of_mem _ he, q⟩)
    have S3 := J3.suite ez3 dz3 na nL nF
    have walk : ∀ {hs' : List ExceptHandler} {l' : List (Value × Cls)}, CsOk X n hs' l' → wAsM X.K Wout D i X.N.length l' cls d τ' G' →
        wpAny (model X.prog X.w) X.A (handleBy (.ref z) X.env hs') (SP X pin D) X.xe { v with heap := g3 } := by
      intro hs' l' hk
      induction hk with
      | nil =>
        intro w
        refine wpAny_handleBy_nil ?_
        obtain ⟨_, _, _, oe, vs, T, oT, t2, he, hz, hd, h1, hr⟩ := id fl3
        unfold PySem.passOn
        refine wpAny_bind (wpAny_field he hd h1 ?_)
        rw [if_neg (show ¬ ((Value.ref T == Value.none) = true) from by simp)]
        have fin : wpAny (model X.prog X.w) X.A (setFlight (.ref z) X.env.frame) (fun _ u4 => wpAny (model X.prog X.w) X.A (throw (.ref z) : Sem Flow) (SP X pin D) X.xe u4) X.xe { v with heap := g3 } := by
          rw [frm]
          refine HandSPX.setFlight_upZ fl3 fun g4 hh4 up4 => wpAny_throw (tk _ _ ?_)
          exact ⟨z, B, sI, pin, τ', G', cls, d, rfl, J, nb, (up.trans up3).trans up4, .inr (.inr (by rw [stk]; exact hh4)), na, os, ag, w⟩
        first
          | exact wpAny_bind (wpAny_pure (wpAny_bind fin))
          | exact wpAny_bind fin
      | @cons x c ts b₁ rest np pp hds2 l2 nm su r ih =>
        intro w
        obtain ⟨b, is, yes, no⟩ := w
        refine wpAny_handleBy_cons (codeAny_handlers_test ?_) (by intro q; cases q)
        have LT : PySem.W.Looks (model X.prog X.w) g3 (typeOf (.ref z)) cls := fun A Q E u k q => wpAny_typeOf_ref (k _ _ ez3) (by rw [hz3.1]; exact q)
        have LM := PySem.W.exm_one (M := model X.prog X.w) (J3.kIn) LT is
        have look : ∀ {Q : Value → Shared → Prop} {E : Value → Shared → Prop}, Q c { v with heap := g3 } → wpAny (model X.prog X.w) (X.A.mark (some (.ref z))) (eval (.Name x np) X.env) Q E { v with heap := g3 } := fun {Q E} q => by
          obtain ⟨gl, db, h1 | ⟨h1, h2, h3⟩⟩ := nm
          · exact ld_glob (X := X.suite z ((z, oz3) :: (X.pn ++ pin))) S3 gl h1 q db
          · exact ld_blt (X := X.suite z ((z, oz3) :: (X.pn ++ pin))) S3 gl h1 h2 q h3 db
        refine look (LM.here ?_)
        cases b with
        | true =>
          refine codeAny_handlers_suite_as ?_
          refine HandSPX.lands_againZ fl3 fun g4 fl4 up4 => ?_
          have J4 : Inv X pin τ' G' { v with heap := g4 } := J.landed nb fl4.1 ((up.trans up3).trans up4) os ag
          obtain ⟨oz4, _, ez4, hz4, dz4⟩ := fl4.there
          have S4 := J4.suite ez4 dz4 na nL nF
          refine store_ok (X := X.suite z ((z, oz4) :: (X.pn ++ pin))) (v := .ref z) S4 nd at_i nloc rfl (fun s5 S5 => ?_) (.inr lcl)
          refine wpAny_mono ((su z oz4 cls d (X.pn ++ pin) hz4 ⟨_, dz4⟩).run [] s5 _ G' _ S5 (yes rfl z na J.len)) (fun f s6 q6 => ?_) (fun _ _ y => False.elim y)
          have gone : ∀ {τ6 : L2.St} {G6 : Hp} {Q : Shared → Prop}, Inv (X.suite z ((z, oz4) :: (X.pn ++ pin))) [] τ6 G6 s6 → (∀ s7, Inv X pin (τ6.set i none) G6 s7 → Q s7) →
              wpAny (model X.prog X.w) X.A (do bindName X.env n .none; unbindBehindTheSuite X.env n pp) (fun _ s7 => Q s7) X.xe s6 := fun {τ6 G6 Q} S6 hq => gone_ok (S6.unsuite okX) nd at_i lcl hq
          rcases f with _ | _ | _ | u
          · obtain ⟨_, _, S6, q⟩ := q6
            exact gone S6 fun s7 J7 => ⟨_, _, J7, q⟩
          · obtain ⟨_, _, S6, q⟩ := q6
            exact gone S6 fun s7 J7 => ⟨_, _, J7, q⟩
          · obtain ⟨_, _, S6, q⟩ := q6
            exact gone S6 fun s7 J7 => ⟨_, _, J7, q⟩
          · obtain ⟨_, _, _, S6, r6, q⟩ := q6
            exact gone S6 fun s7 J7 => ⟨_, _, _, J7, r6, q⟩
        | false =>
          show wpAny _ X.A (handleBy (.ref z) X.env hds2) _ _ _
          exact ih (no rfl)
    exact walk cl w
  · rcases f with _ | _ | _ | u
    · obtain ⟨_, _, J', q⟩ := out
      exact wpAny_execs_nil ⟨_, _, J'.ofTry okX, q⟩
    · obtain ⟨_, _, J', q⟩ := out
      exact ⟨_, _, J'.ofTry okX, q⟩
    · obtain ⟨_, _, J', q⟩ := out
      exact ⟨_, _, J'.ofTry okX, q⟩
    · obtain ⟨_, _, _, J', r, q⟩ := out
      exact ⟨_, _, _, J'.ofTry okX, r, q⟩
end
/-! ### repr of an int or None -/
def reprN : Option Int → Str
  | some k => Str.ofString (toString k)
  | none => Str.ofString "None"
def optI : Option Int → V
  | some k => .int k
  | none => .non
def rReprN : List V → Hp → VK → Prop := fun xs H Q => ∃ o : Option Int, xs = [optI o] ∧ (∀ k, o = some k → k.natAbs.log2 < 1920) ∧ Q (.str (reprN o)) H
theorem cr_reprN {X : Cx} : CallR X (.builtin "repr") rReprN := by
  intro pins s σ H xs us Q I r h
  obtain ⟨o, rfl, hb, q⟩ := h
  obtain ⟨u, rfl, ru⟩ := vals1 r
  cases o with
  | none =>
    cases (show u = Value.none from ru)
    exact P.repr_of_none ⟨.str _, H, I.tok _, ⟨_, rfl⟩, q⟩
  | some k =>
    obtain ⟨t, rfl⟩ := (show ∃ t, u = Value.int k t from ru)
    exact P.repr_of_int (hb k rfl) ⟨.str _, H, I.tok _, ⟨_, rfl⟩, q⟩
end Ty

namespace Xb
open PySem PySem.Spec PyProof.Rows L2
/-- isinstance of the caught error, whose own dict is known -/
structure IsC (K : PySem.W.Frag) (C : Addr) : Prop where
  cl : (PySem.W.clsIn K C).isSome = true
  ga : PySem.W.findIn K (.ref C) "__getattribute__" = some (some (.builtin "BaseException.__getattribute__"))
  gg : PySem.W.findIn K (.ref C) "__getattr__" = some none
  ex : PySem.W.subIn K (.ref C) (.type "BaseException") = some true
  c1 : PySem.W.findIn K (.ref C) "__class__" = some (some (.builtin "object.__class__"))
  c2 : PySem.W.specialIn K (.builtin "object.__class__") "__get__" = some (some (.builtin "getset_descriptor.__get__"))
  c3 : PySem.W.takesIn K (.builtin "object.__class__") = some true
  c4 : PySem.W.mroIn K C (.type "object") = some true
def rIsAt (K : PySem.W.Frag) (a : Addr) (cls : Value) (d : Option Addr) (C : Addr) : List V → Hp → VK → Prop := fun xs H Q => cls = .ref C ∧ ∃ (c : V) (cv : Value) (b : Bool) (dd : Addr) (fs : List (Str × V)), xs = [.ref a, c] ∧ d = some dd ∧ H dd = some (.xd fs) ∧ (∀ u, RelV c u → u = cv) ∧ PySem.W.kitOne K (.ref C) cv = some b ∧ Q (.bl b) H
theorem call_isAt {X : Cx} {a C : Addr} {cls : Value} {d : Option Addr} {oe : Obj} {pn : List (Addr × Obj)} (T : IsC X.K C) (hz : Zc cls d oe) (hf : ∃ vs, oe.data = .fields vs) : CallR (X.suite a ((a, oe) :: pn)) (.builtin "isinstance") (rIsAt X.K a cls d C) := by
  intro pins s σ H xs us Q I r h
  obtain ⟨rfl, c, cv, b, dd, fs, rfl, rfl, ea, hcv, e, q⟩ := h
  match us, r with
  | [_, _], .cons r1 (.cons r2 .nil) =>
    cases r1
    have ec := hcv _ r2
    subst ec
    have pin := (I.pin (a, oe) (List.mem_append.mpr (.inl List.mem_cons_self))).1
    obtain ⟨vs, hv⟩ := hf
    obtain ⟨mA, hns, _⟩ := (I.hok dd _ ea : ObjOk X.prog X.w H s.heap dd (.xd fs))
    obtain ⟨od, ho, _⟩ := lookIn_ns hns
    have J : PySem.W.InstAt s.heap a oe C (some od) := ⟨pin, hz.1, by unfold PySem.W.notCls; rw [hv] <;> rfl, by rw [hz.2]; exact ho⟩
    exact PySem.W.kia_one (PySem.W.kitx_exc T.cl T.ga T.gg T.ex T.c1 T.c2 T.c3 T.c4) I.kIn J e (by intro z; cases z) fun tk => ⟨.bl b, H, I.kept (t' := tk) fun _ _ z => z, rfl, q⟩
end Xb

namespace K6
open PySem PySem.Spec PyProof.Rows L2 Hb St Sq Ow En Zp RZ Rd Xb Da Lo Cq LamX Lc Lp Lg Sk Ty
/-- a def whose last parameters are by default, as a value that may be called -/
theorem callV_df {P : Program} {w : World} {K : PySem.W.Frag} {mg : Str → Option Value} {base : Heap} {j lv : Nat} {f : Addr} {fd : FuncData} {ps : List Str} {sp : Sp} {ds : List Value} {dvs : List V} {oc : Value} {od : Option Addr} {osl : Array (Option Value)} {H : Hp}
    (F : FnOk P w K mg base (L2.CX P w) j f fd ps sp) (lk : K.lookup f = some ⟨oc, od, .func fd, osl⟩) (b : Binds K fd ps ds) (rd : Vals dvs ds) (jl : j ≤ lv) : Cq.CallV P w K mg base lv (fun vs => sp (vs ++ dvs)) H f := by
  have kin : ∀ {A outer s H'}, Env0 P w K mg base A outer s H' → K.In s.heap := fun e0 => e0.mod.kin.keeps fun b o e => (e0.bs b o e).1
  refine ⟨[], fun p m => (by cases m), fun A outer s H' e0 _ => ⟨_, _, _, _, kin e0 f _ lk⟩, fun A outer s H' us vs Q E hr e0 _ r z => ?_⟩
  have l1 := F.len _ _ _ _ z
  have rr := r.append rd
  exact F.run A outer s H' ⟨us, []⟩ (us ++ ds) (vs ++ dvs) Q E (hr.mono jl) e0 (b s us (kin e0) (by rw [← rr.length]; exact l1)) rr z
/-! ### _law_at -/
abbrev s__law_at : Stmt := top 49
theorem sc__law_at : FnScope ["work", "found", "e"] ["work"] (defScope s__law_at) := ⟨rfl, rfl, rfl, by decide +kernel, rfl, by decide +kernel, by decide +kernel⟩
/-- what a told error leaves: its number -/
def eAt (C : Addr) (Q : VK) : XK := fun cls d H => ∃ (dd : Addr) (k : Int), d = some dd ∧ H dd = some (errH k) ∧ cls = .ref C ∧ Q (.int k) H
def TAt (C : Addr) : (XK → Hp → VK → Prop) → Hp → VK → Prop := fun tl H Q => ∀ R : VK, (∀ v H1, Q (.str (Str.ofString "none")) H1 → R v H1) → tl (eAt C Q) H R
theorem law_at_gives {X : Cx} {q : Str} {g C fC : Addr} {cdg : Value} (T : ErrC X.K X.mg "InvalidHeard" C fC) : GivesTo X ["work", "found", "e"] "_law_at" (defScope s__law_at) g cdg (defBody s__law_at) "work" q (TAt C) := by
  intro f c' s H Q tl act hc h
  refine ⟨_, pss_cons (ps_set (i := 1) sc__law_at.nd rfl (Or.inl rfl) pe_str) (pss_cons (ps_try_asM (X := (cxOf C8.CX0 X.prog X.w X.K X.mg X.base ["work", "found", "e"] "_law_at" (defScope s__law_at) g cdg X.A X.stack s H C8.E0).nox) (i := 2) (n := "e")
      (l := [(.ref C, _)])
      (tb := fun W D σ H => ∃ Ech : XK, (∀ cls d σ' H', Ech cls d H' → W cls d σ' H') ∧ σ[0]? = some (some (.ref f)) ∧ H c' = some (CodeO c' q) ∧ tl Ech H fun _ H1 => D.nx σ H1)
      rfl rfl sc__law_at.nd rfl rfl LamX.takes0 (fun W pn xe tk _ => ?_)
      (.cons ⟨rfl, by decide, .inl T.gC⟩ (fun a oe cls d pn hz hf => pss_one (ps_set (i := 1) sc__law_at.nd rfl (Or.inl rfl) (pe_xf T.xf T.noN hz hf (pv 2)))) .nil)) (pss_one (ps_ret (pv 1)))), ?_⟩
  · refine ⟨fun pins s' σ H' D I h' => ?_⟩
    obtain ⟨Ech, hW, h1, h2, h3⟩ := h'
    exact (pss_one (ps_expr (act W pn xe Ech _ _ tk hW))).run pins s' σ H' D I ⟨h1, h2, h3⟩
  · refine ⟨eAt C Q, fun cls d σ' H' he => ?_, rfl, hc, h _ fun v H1 hq => ⟨_, rfl, hq⟩⟩
    obtain ⟨dd, k, rfl, ed, rfl, hq⟩ := he
    refine ⟨true, T.te, fun _ z hz ln => ?_, fun y => (by cases y)⟩
    match σ', ln with
    | [o0, o1, o2], _ =>
      exact ⟨_, rfl, rfl, rfl, dd, _, .int k, rfl, ed, rfl, _, rfl, hq⟩
end K6

/-! one tone or two: mathematics -/
namespace K6
open PySem PySem.Spec PyProof.Rows L2 Hb St Sq Ow En Zp RZ Rd Xb Da Lo
/-! ### the first of what is kept -/
theorem keepF_head {α : Type} [DecidableEq α] {R : α → α → Bool} {p : α → Bool} : ∀ r : List α, (keepF R p r.reverse).head? = r.reverse.find? p
  | [] => rfl
  | x :: r => by
    rw [List.reverse_cons, keepF_snoc, List.find?_append, ← keepF_head r]
    cases h : keepF R p r.reverse with
    | nil =>
      cases c : p x with
      | true => simp [List.find?_cons, c]
      | false => simp [List.find?_cons, c]
    | cons y ys =>
      split <;> simp
theorem keepF_first {α : Type} [DecidableEq α] {R : α → α → Bool} {p : α → Bool} (L : List α) : (keepF R p L).head? = L.find? p := by
  have := keepF_head (R := R) (p := p) L.reverse
  rwa [List.reverse_reverse] at this
/-! ### how often -/
def hw (t : Tale) (l : Lot) : Nat := (thinT l t).length
theorem hw_count (t : Tale) (l : Lot) : hw t l = t.countP fun m => !decide (thinL l m = []) := by
  unfold hw thinT
  rw [← List.countP_eq_length_filter, List.countP_map]
  rfl
theorem thin_nil {R s m : Lot} (h : ∀ x ∈ m, x ∈ R) : thinL (R.filter fun x => !decide (x ∈ s)) m = [] ↔ prt m s = true := by
  rw [prt_iff]
  constructor
  · intro e x hx
    refine Decidable.byContradiction fun n => ?_
    have : x ∈ thinL (R.filter fun x => !decide (x ∈ s)) m := thin_in.mpr ⟨hx, List.mem_filter.mpr ⟨h x hx, by simp [n]⟩⟩
    rw [e] at this
    cases this
  · intro k
    rw [List.eq_nil_iff_forall_not_mem]
    intro x hx
    obtain ⟨h1, h2⟩ := thin_in.mp hx
    have := (List.mem_filter.mp h2).2
    simp [k x h1] at this
theorem hw_rest {R s : Lot} {t : Tale} (ti : TlIn R t) : (t.countP fun m => prt m s) + hw t (R.filter fun x => !decide (x ∈ s)) = t.length := by
  rw [hw_count, List.length_eq_countP_add_countP (p := fun m => prt m s)]
  congr 1
  refine List.countP_congr fun m hm => ?_
  have := thin_nil (R := R) (s := s) (ti.inn m hm)
  by_cases c : prt m s = true
  · simp [this.mpr c, c]
  · simp [c]
    intro z
    exact c (this.mp z)
theorem hw_all {R : Lot} {t : Tale} (ti : TlIn R t) : hw t R = t.length := by
  rw [hw_count, List.countP_eq_length]
  intro m hm
  have : thinL R m = m := List.filter_eq_self.mpr fun x hx => decide_eq_true (ti.inn m hm x hx)
  rw [this]
  simpa using ti.ne m hm
theorem shortest : ∀ {l : Tale}, l ≠ [] → ∃ m ∈ l, ∀ x ∈ l, m.length ≤ x.length
  | [], h => absurd rfl h
  | [m], _ => ⟨m, List.mem_cons_self, fun x hx => by rw [List.mem_singleton.mp hx]; exact Nat.le_refl _⟩
  | a :: b :: r, _ => by
    obtain ⟨m, hm, k⟩ := shortest (l := b :: r) (by simp)
    by_cases c : a.length ≤ m.length
    · refine ⟨a, List.mem_cons_self, fun x hx => ?_⟩
      rcases List.mem_cons.mp hx with rfl | hx
      · exact Nat.le_refl _
      · exact Nat.le_trans c (k x hx)
    · refine ⟨m, List.mem_cons_of_mem _ hm, fun x hx => ?_⟩
      rcases List.mem_cons.mp hx with rfl | hx
      · omega
      · exact k x hx
theorem prt_self (m : Lot) : prt m m = true := prt_iff.mpr fun _ h => h
theorem both_have {a b : Tale} {m : Lot} (oa : ∀ l ∈ a, l.Pairwise sLt) (ob : ∀ l ∈ b, l.Pairwise sLt) (le : ∀ x ∈ b, m.length ≤ x.length) (h : (a.countP fun x => prt x m) = b.countP fun x => prt x m) (hm : m ∈ a) : m ∈ b := by
  have : 0 < a.countP fun x => prt x m := List.countP_pos_iff.mpr ⟨m, hm, prt_self m⟩
  rw [h] at this
  obtain ⟨x, hx, p⟩ := List.countP_pos_iff.mp this
  rw [← asc_part (ob x hx) (oa m hm) p (le x hx)]
  exact hx
theorem perm_of : ∀ (n : Nat) (a b : Tale), a.length ≤ n → (∀ l ∈ a, l.Pairwise sLt) → (∀ l ∈ b, l.Pairwise sLt) → (∀ s, (a.countP fun m => prt m s) = b.countP fun m => prt m s) → a.Perm b := by
  intro n
  induction n with
  | zero =>
    intro a b h _ _ e
    obtain rfl : a = [] := List.eq_nil_of_length_eq_zero (by omega)
    cases b with
    | nil => exact .nil
    | cons m r =>
      have := e m
      rw [List.countP_nil, List.countP_cons_of_pos (p := fun x => prt x m) (prt_self m)] at this
      omega
  | succ n ih =>
    intro a b h oa ob e
    by_cases c : a ++ b = []
    · obtain ⟨rfl, rfl⟩ := List.append_eq_nil_iff.mp c
      exact .nil
    · obtain ⟨m, hm, k⟩ := shortest c
      have ma : m ∈ a ∧ m ∈ b := by
        rcases List.mem_append.mp hm with z | z
        · exact ⟨z, both_have oa ob (fun x hx => k x (List.mem_append_right _ hx)) (e m) z⟩
        · exact ⟨both_have ob oa (fun x hx => k x (List.mem_append_left _ hx)) (e m).symm z, z⟩
      have pa := List.perm_cons_erase ma.1
      have pb := List.perm_cons_erase ma.2
      refine pa.trans (.trans (.cons m (ih _ _ ?_ (fun l hl => oa l (List.mem_of_mem_erase hl)) (fun l hl => ob l (List.mem_of_mem_erase hl)) fun s => ?_)) pb.symm)
      · have := pa.length_eq
        rw [List.length_cons] at this
        omega
      · have e1 := pa.countP_eq (fun x => prt x s)
        have e2 := pb.countP_eq (fun x => prt x s)
        rw [List.countP_cons] at e1 e2
        have := e s
        omega
theorem hw_perm {a b : Tale} (h : a.Perm b) (l : Lot) : hw a l = hw b l := by
  rw [hw_count, hw_count]
  exact h.countP_eq _
/-- what one tone tells, at any lot of the names that ring -/
theorem perm_hw {R : Lot} {a b : Tale} (ia : TlIn R a) (ib : TlIn R b) (h : ∀ l : Lot, l.Sublist R → hw a l = hw b l) : a.Perm b := by
  refine perm_of a.length a b (Nat.le_refl _) ia.asc ib.asc fun s => ?_
  have e1 := hw_rest (s := s) ia
  have e2 := hw_rest (s := s) ib
  have e3 := h _ (List.filter_sublist (p := fun x => !decide (x ∈ s)) (l := R))
  have e4 := h R (List.Sublist.refl _)
  rw [hw_all ia, hw_all ib] at e4
  omega
/-! ### how many tones -/
def hwB (a b : Tale) (l : Lot) : Bool := !decide (hw a l = hw b l)
def nd (a b : Tale) : Nat × Option Lot := if a = b then (0, none) else match (OL (namesT [a, b])).find? (hwB a b) with
  | some l => (1, some l)
  | none => (2, (OL (namesT [a, b])).find? fun l => partB a b l false)
theorem rung_in (a b : Tale) (ha : ∀ l ∈ a, l ≠ [] ∧ l.Pairwise sLt) : TlIn (lotS (namesT [a, b])) a := by
  refine ⟨fun l h => (ha l h).1, fun l h => (ha l h).2, fun l h x hx => mem_lotS.mpr ?_⟩
  exact List.mem_flatMap.mpr ⟨a, List.mem_cons_self, List.mem_flatMap.mpr ⟨l, h, hx⟩⟩
theorem rung_in2 (a b : Tale) (hb : ∀ l ∈ b, l ≠ [] ∧ l.Pairwise sLt) : TlIn (lotS (namesT [a, b])) b := by
  refine ⟨fun l h => (hb l h).1, fun l h => (hb l h).2, fun l h x hx => mem_lotS.mpr ?_⟩
  exact List.mem_flatMap.mpr ⟨b, by simp, List.mem_flatMap.mpr ⟨l, h, hx⟩⟩
theorem thin_all {R : Lot} {t : Tale} (ti : TlIn R t) : thinT R t = t := by
  have : t.map (thinL R) = t := by
    conv => rhs; rw [← List.map_id t]
    refine List.map_congr_left fun m hm => ?_
    exact List.filter_eq_self.mpr fun x hx => decide_eq_true (ti.inn m hm x hx)
  unfold thinT
  rw [this]
  exact List.filter_eq_self.mpr fun m hm => by simpa using ti.ne m hm
def Good (t : Tale) : Prop := ∀ l ∈ t, l ≠ [] ∧ l.Pairwise sLt
theorem TlIn.good {ns : List Str} {t : Tale} (h : TlIn ns t) : Good t := fun l m => ⟨h.ne l m, h.asc l m⟩
theorem part_some {a b : Tale} (ha : Good a) (hb : Good b) (ne : a ≠ b) : ∃ l, ((OL (namesT [a, b])).find? fun l => partB a b l false) = some l := by
  cases c : (OL (namesT [a, b])).find? fun l => partB a b l false with
  | some l => exact ⟨l, rfl⟩
  | none =>
    have := List.find?_eq_none.mp c (lotS (namesT [a, b])) (mem_OL.mpr (List.Sublist.refl _))
    unfold partB at this
    rw [if_neg (by decide), thin_all (rung_in a b ha), thin_all (rung_in2 a b hb)] at this
    simp [ne] at this
theorem namesT_swap (a b : Tale) : ∀ x, x ∈ namesT [b, a] ↔ x ∈ namesT [a, b] := fun x => by
  unfold namesT
  simp only [List.flatMap_cons, List.flatMap_nil, List.append_nil, List.mem_append]
  exact Or.comm
theorem nd_swap (a b : Tale) : nd b a = nd a b := by
  unfold nd
  rw [OL_congr (namesT_swap a b), show hwB b a = hwB a b from funext fun l => by unfold hwB; rw [decide_eq_decide.mpr eq_comm], show (fun l => partB b a l false) = fun l => partB a b l false from funext fun l => part_symm a b l false]
  by_cases c : a = b
  · rw [if_pos c, if_pos c.symm]
  · rw [if_neg c, if_neg fun e => c e.symm]
theorem nd_same {a b : Tale} (ha : Good a) (hb : Good b) : decide (a.Perm b) = !decide ((nd a b).1 = 1) := by
  unfold nd
  by_cases c : a = b
  · subst c
    rw [if_pos rfl, decide_eq_true (List.Perm.refl a)]; rfl
  · rw [if_neg c]
    cases f : (OL (namesT [a, b])).find? (hwB a b) with
    | some l =>
      have := List.find?_some f
      unfold hwB at this
      rw [decide_eq_false fun p => by rw [decide_eq_true (hw_perm p l)] at this; cases this]; rfl
    | none =>
      refine (decide_eq_true (perm_hw (rung_in a b ha) (rung_in2 a b hb) fun l hl => ?_)).trans rfl
      have := List.find?_eq_none.mp f l (mem_OL.mpr hl)
      unfold hwB at this
      simpa using this
theorem nd_0 {a b : Tale} (h : (nd a b).1 = 0) : a = b := by
  unfold nd at h
  by_cases c : a = b
  · exact c
  · rw [if_neg c] at h
    split at h <;> cases h
/-- what a naming must tell -/
theorem need_lot {a b : Tale} (ha : Good a) (hb : Good b) (h : (nd a b).1 ≠ 0) : ∃ l, (nd a b).2 = some l ∧ l ∈ OL (namesT [a, b]) ∧ (((nd a b).1 = 1 ∧ hw a l ≠ hw b l) ∨ ((nd a b).1 = 2 ∧ thinT l a ≠ thinT l b)) := by
  unfold nd at h ⊢
  by_cases c : a = b
  · rw [if_pos c] at h
    exact absurd rfl h
  · rw [if_neg c]
    cases f : (OL (namesT [a, b])).find? (hwB a b) with
    | some l =>
      refine ⟨l, rfl, List.mem_of_find?_eq_some f, .inl ⟨rfl, ?_⟩⟩
      have := List.find?_some f
      unfold hwB at this
      simpa using this
    | none =>
      obtain ⟨l, e⟩ := part_some ha hb c
      refine ⟨l, e, List.mem_of_find?_eq_some e, .inr ⟨rfl, ?_⟩⟩
      have := List.find?_some e
      unfold partB at this
      rw [if_neg (by decide)] at this
      simpa using this
end K6

/-! lots matched; tones heard: mathematics -/
namespace K6
open PySem PySem.Spec PyProof.Rows L2 Hb St Sq Ow En Zp RZ Rd Xb Da Lo
/-! ### lots matched, first ones first -/
def spots (b : Tale) (f : List Nat) (l : Lot) : List Nat := (List.range b.length).filter fun i => decide (b[i]? = some l) && !decide (i ∈ f)
def matL (b : Tale) : Tale → List Nat → Option (List Nat)
  | [], f => some f
  | l :: r, f => match spots b f l with
    | [] => none
    | s :: _ => matL b r (f ++ [s])
def matF (a b : Tale) : Option (List Nat) := match matL b a [] with
  | some f => if f.length = b.length then some f else none
  | none => none
/-- the numbers that are left -/
def left (b : Tale) (f : List Nat) : List Nat := (List.range b.length).filter fun i => !decide (i ∈ f)
theorem spots_left (b : Tale) (f : List Nat) (l : Lot) : spots b f l = (left b f).filter fun i => decide (b[i]? = some l) := by
  unfold spots left
  rw [List.filter_filter]
theorem left_nd (b : Tale) (f : List Nat) : (left b f).Nodup := List.nodup_range.sublist List.filter_sublist
theorem left_step {b : Tale} {f : List Nat} {s : Nat} (h : s ∈ left b f) : (left b f).Perm (s :: left b (f ++ [s])) := by
  refine (List.perm_cons_erase h).trans (.cons s ?_)
  have : (left b f).erase s = left b (f ++ [s]) := by
    rw [(left_nd b f).erase_eq_filter]
    unfold left
    rw [List.filter_filter]
    refine List.filter_congr fun i _ => ?_
    by_cases c : i = s
    · subst c; simp
    · simp [c]
  rw [this]
/-- what is left, as lots -/
def rest (b : Tale) (f : List Nat) : List (Option Lot) := (left b f).map fun i => b[i]?
theorem rest_step {b : Tale} {f : List Nat} {s : Nat} {l : Lot} (h : s ∈ left b f) (e : b[s]? = some l) : (rest b f).Perm (some l :: rest b (f ++ [s])) := by
  have := (left_step h).map fun i => b[i]?
  rw [List.map_cons, e] at this
  exact this
theorem rest_0 (b : Tale) : rest b [] = b.map some := by
  unfold rest left
  rw [List.filter_eq_self.mpr (by simp)]
  refine List.ext_getElem? fun i => ?_
  rw [List.getElem?_map, List.getElem?_map]
  rcases Nat.lt_or_ge i b.length with h | h
  · rw [List.getElem?_range h, List.getElem?_eq_getElem h]
    simp [List.getElem?_eq_getElem h]
  · rw [List.getElem?_eq_none (by rw [List.length_range]; exact h), List.getElem?_eq_none h]; rfl
theorem mat_perm (b : Tale) : ∀ (r : Tale) (f : List Nat), f.length + (left b f).length = b.length → ((∃ g, matL b r f = some g ∧ g.length = b.length) ↔ (r.map some).Perm (rest b f))
  | [], f, h => by
    constructor
    · rintro ⟨g, e, l⟩
      cases e
      have : left b f = [] := List.eq_nil_of_length_eq_zero (by omega)
      unfold rest
      rw [this]
      exact .nil
    · intro p
      have := p.length_eq
      unfold rest at this
      rw [List.map_nil, List.length_map] at this
      exact ⟨f, rfl, by rw [List.length_nil] at this; omega⟩
  | l :: r, f, h => by
    unfold matL
    cases e : spots b f l with
    | nil =>
      constructor
      · rintro ⟨g, e, _⟩; cases e
      · intro p
        exfalso
        have m : some l ∈ rest b f := p.mem_iff.mp (by simp)
        obtain ⟨i, hi, ei⟩ := List.mem_map.mp m
        have : i ∈ spots b f l := by rw [spots_left]; exact List.mem_filter.mpr ⟨hi, decide_eq_true ei⟩
        rw [e] at this
        cases this
    | cons s q =>
      have hs : s ∈ spots b f l := by rw [e]; exact List.mem_cons_self
      rw [spots_left] at hs
      obtain ⟨h1, h2⟩ := List.mem_filter.mp hs
      have h2 := of_decide_eq_true h2
      have st := rest_step h1 h2
      have ln := (left_step h1).length_eq
      rw [List.length_cons] at ln
      refine (mat_perm b r (f ++ [s]) (by rw [List.length_append]; show _ + 1 + _ = _; omega)).trans ?_
      rw [List.map_cons]
      exact ⟨fun p => (p.cons (some l)).trans st.symm, fun p => (p.trans st).cons_inv⟩
theorem mat_none (a b : Tale) : (matF a b).isSome = decide (a.Perm b) := by
  have h := mat_perm b a [] (by unfold left; rw [List.filter_eq_self.mpr (by simp), List.length_range]; simp)
  rw [rest_0] at h
  have p : (a.map some).Perm (b.map some) ↔ a.Perm b := ⟨fun p => by
    have := p.filterMap id
    simpa [List.filterMap_map] using this, fun p => p.map some⟩
  rw [p] at h
  unfold matF
  rw [Bool.eq_iff_iff, decide_eq_true_iff, ← h]
  cases matL b a [] with
  | none => simp
  | some g =>
    by_cases c : g.length = b.length
    · simp [c]
    · simp [c]
theorem spots_next {b : Tale} {f : List Nat} {l : Lot} {s : Nat} {q : List Nat} (h : spots b f l = s :: q) (m : Lot) : spots b (f ++ [s]) m = if m = l then q else spots b f m := by
  have hs : s ∈ spots b f l := by rw [h]; exact List.mem_cons_self
  have e : b[s]? = some l := by
    unfold spots at hs
    have := (List.mem_filter.mp hs).2
    rw [Bool.and_eq_true] at this
    exact of_decide_eq_true this.1
  have ns : (spots b f l).Nodup := List.nodup_range.sublist List.filter_sublist
  have st : ∀ m, spots b (f ++ [s]) m = (spots b f m).filter fun i => !decide (i = s) := fun m => by
    unfold spots
    rw [List.filter_filter]
    refine List.filter_congr fun i _ => ?_
    by_cases c : i = s
    · subst c; simp
    · simp [c]
  rw [st]
  by_cases c : m = l
  · subst c
    rw [if_pos rfl, h]
    rw [h] at ns
    obtain ⟨n1, n2⟩ := List.nodup_cons.mp ns
    rw [List.filter_cons_of_neg (by simp)]
    exact List.filter_eq_self.mpr fun i hi => by
      have : i ≠ s := fun z => n1 (z ▸ hi)
      simp [this]
  · rw [if_neg c]
    refine List.filter_eq_self.mpr fun i hi => ?_
    have : i ≠ s := fun z => by
      subst z
      have := (List.mem_filter.mp hi).2
      rw [Bool.and_eq_true] at this
      have := of_decide_eq_true this.1
      rw [e] at this
      exact c (Option.some.inj this).symm
    simp [this]
theorem mat_len {b : Tale} : ∀ {r : Tale} {f g : List Nat}, matL b r f = some g → g.length = f.length + r.length
  | [], f, g, e => by cases e; rfl
  | l :: r, f, g, e => by
    unfold matL at e
    split at e
    · cases e
    · have := mat_len e
      simp only [List.length_append, List.length_cons, List.length_nil] at this ⊢
      omega
theorem mat_lt {b : Tale} : ∀ {r : Tale} {f g : List Nat}, (∀ i ∈ f, i < b.length) → matL b r f = some g → ∀ i ∈ g, i < b.length
  | [], f, g, h, e => by cases e; exact h
  | l :: r, f, g, h, e => by
    unfold matL at e
    split at e
    · cases e
    · rename_i s q es
      refine mat_lt (fun i hi => ?_) e
      rcases List.mem_append.mp hi with hi | hi
      · exact h i hi
      · rw [List.mem_singleton.mp hi]
        have : s ∈ spots b f l := by rw [es]; exact List.mem_cons_self
        exact List.mem_range.mp (List.mem_filter.mp this).1
/-! ### tones heard -/
def tonL (g : Str → Int) (m : Lot) : List Int := lotI ((m.filter fun x => decide (0 < g x)).map g)
def tonT (g : Str → Int) (t : Tale) : List (List Int) := (t.map (tonL g)).filter fun l => !decide (l = [])
theorem ton_thin {g : Str → Int} {bs : Lot} (hg : ∀ x, 0 < g x ↔ x ∈ bs) (t : Tale) : tonT g t = (thinT bs t).map fun m => lotI (m.map g) := by
  have e : ∀ m, tonL g m = lotI ((thinL bs m).map g) := fun m => by
    unfold tonL thinL
    rw [List.filter_congr fun x _ => decide_eq_decide.mpr (hg x)]
  unfold tonT thinT
  induction t with
  | nil => rfl
  | cons m r ih =>
    rw [List.map_cons, List.map_cons, e]
    by_cases c : thinL bs m = []
    · rw [List.filter_cons_of_neg (by rw [c]; simp [lotI, lotBy]), List.filter_cons_of_neg (by simp [c]), ih]
    · have : lotI ((thinL bs m).map g) ≠ [] := fun z => by
        obtain ⟨x, r', ex⟩ := List.exists_cons_of_ne_nil c
        have : g x ∈ lotI ((thinL bs m).map g) := mem_lotI.mpr (List.mem_map.mpr ⟨x, by rw [ex]; exact List.mem_cons_self, rfl⟩)
        rw [z] at this
        cases this
      rw [List.filter_cons_of_pos (by simp [this]), List.filter_cons_of_pos (by simp [c]), List.map_cons, ih]
theorem ton_one {g : Str → Int} {bs : Lot} (hg : ∀ x, 0 < g x ↔ x ∈ bs) {a b : Tale} (h : hw a bs ≠ hw b bs) : tonT g a ≠ tonT g b := fun e => h (by
  have := congrArg List.length e
  rw [ton_thin hg, ton_thin hg, List.length_map, List.length_map] at this
  exact this)
theorem map_inj_on {α β : Type} {f : α → β} : ∀ {l m : List α}, (∀ x ∈ l, ∀ y ∈ m, f x = f y → x = y) → l.map f = m.map f → l = m
  | [], [], _, _ => rfl
  | [], _ :: _, _, e => by cases e
  | _ :: _, [], _, e => by cases e
  | x :: l, y :: m, h, e => by
    rw [List.map_cons, List.map_cons] at e
    injection e with e1 e2
    rw [h x (.head _) y (.head _) e1, map_inj_on (fun a ha b hb => h a (.tail _ ha) b (.tail _ hb)) e2]
theorem ton_two {g : Str → Int} {bs : Lot} (hg : ∀ x, 0 < g x ↔ x ∈ bs) (inj : ∀ x ∈ bs, ∀ y ∈ bs, g x = g y → x = y) {a b : Tale} (ha : Good a) (hb : Good b) (h : thinT bs a ≠ thinT bs b) : tonT g a ≠ tonT g b := fun e => h (by
  rw [ton_thin hg, ton_thin hg] at e
  have ok : ∀ t : Tale, Good t → ∀ m ∈ thinT bs t, m.Pairwise sLt ∧ ∀ x ∈ m, x ∈ bs := fun t gt m hm => by
    obtain ⟨_, l, hl, rfl⟩ := thin_ne hm
    exact ⟨(gt l hl).2.sublist (thinL_sub _ _), fun x hx => (thin_in.mp hx).2⟩
  refine map_inj_on (fun m hm n hn k => ?_) e
  obtain ⟨a1, i1⟩ := ok a ha m hm
  obtain ⟨a2, i2⟩ := ok b hb n hn
  have mem : ∀ m : Lot, (∀ x ∈ m, x ∈ bs) → ∀ x ∈ bs, x ∈ m ↔ g x ∈ lotI (m.map g) := fun m im x hx => by
    rw [mem_lotI, List.mem_map]
    exact ⟨fun h => ⟨x, h, rfl⟩, fun ⟨y, hy, ey⟩ => inj y (im y hy) x hx ey ▸ hy⟩
  refine (lotS_eq a1 fun x => ?_).trans (lotS_eq a2 fun x => Iff.rfl).symm
  constructor
  · intro hx
    have := (mem m i1 x (i1 x hx)).mp hx
    rw [k] at this
    exact (mem n i2 x (i1 x hx)).mpr this
  · intro hx
    have := (mem n i2 x (i2 x hx)).mp hx
    rw [← k] at this
    exact (mem m i1 x (i2 x hx)).mpr this)
/-! ### a naming's tones -/
def tone : Lot → List Int → Str → Int
  | b :: bs, n :: ns, x => if b = x then n else tone bs ns x
  | _, _, _ => 0
theorem valV_snoc_ne {κ : Type} [DecidableEq κ] {kvs : List (κ × V)} {k k' : κ} {v : V} (h : k' ≠ k) : valV (kvs ++ [(k', v)]) k = valV kvs k := by
  unfold valV
  rw [List.find?_append]
  cases kvs.find? fun kv => decide (kv.1 = k) with
  | some z => rfl
  | none => simp [List.find?_cons, h]
theorem merge_new : ∀ {more kvs : List (Key × V)}, ((kvs ++ more).map (·.1)).Nodup → mergeK kvs more = kvs ++ more
  | [], kvs, _ => by rw [List.append_nil]; rfl
  | (k, v) :: r, kvs, h => by
    have n : kvs.any (fun kv => decide (kv.1 = k)) = false := by
      rw [List.any_eq_false]
      intro kv hkv
      rw [List.map_append, List.nodup_append] at h
      have := h.2.2 kv.1 (List.mem_map.mpr ⟨kv, hkv, rfl⟩) k (by simp)
      simpa using this
    show mergeK (putK kvs k v) r = _
    have e : putK kvs k v = kvs ++ [(k, v)] := by
      unfold putK
      rw [n, if_neg (by decide)]
    rw [e, merge_new (by rw [List.append_assoc]; exact h), List.append_assoc]; rfl
theorem tone_val : ∀ {bs : Lot} {ns : List Int}, bs.length = ns.length → ∀ x : Str, (valV ((bs.map (Sum.inr : Str → Key)).zip (ns.map V.int)) (.inr x)).getD (.int 0) = V.int (tone bs ns x)
  | [], ns, _, x => by unfold tone; rfl
  | b :: bs, [], h, _ => by simp at h
  | b :: bs, n :: ns, h, x => by
    rw [List.map_cons, List.map_cons, List.zip_cons_cons]
    unfold tone
    by_cases c : b = x
    · subst c
      rw [if_pos rfl, valV_pos rfl]; rfl
    · rw [if_neg c, valV_neg (fun z => c (by injection z))]
      exact tone_val (by simpa using h) x
theorem tone_pos {bs : Lot} {ns : List Int} : bs.length = ns.length → (∀ n ∈ ns, 0 < n) → ∀ x, 0 < tone bs ns x ↔ x ∈ bs := by
  induction bs generalizing ns with
  | nil => intro _ _ x; unfold tone; simp
  | cons b bs ih =>
    intro h p x
    cases ns with
    | nil => simp at h
    | cons n ns =>
      unfold tone
      by_cases c : b = x
      · subst c
        rw [if_pos rfl]
        simp [p n (.head _)]
      · rw [if_neg c, ih (by simpa using h) (fun m hm => p m (.tail _ hm)) x, List.mem_cons]
        exact ⟨.inr, fun h => h.elim (fun z => absurd z.symm c) id⟩
theorem tone_mem {bs : Lot} {ns : List Int} : bs.length = ns.length → ∀ x ∈ bs, tone bs ns x ∈ ns := by
  induction bs generalizing ns with
  | nil => intro _ x h; cases h
  | cons b bs ih =>
    intro h x hx
    cases ns with
    | nil => simp at h
    | cons n ns =>
      unfold tone
      by_cases c : b = x
      · rw [if_pos c]; exact List.mem_cons_self
      · rw [if_neg c]
        rcases List.mem_cons.mp hx with e | hx
        · exact absurd e.symm c
        · exact List.mem_cons_of_mem _ (ih (by simpa using h) x hx)
theorem tone_inj {bs : Lot} {ns : List Int} : bs.length = ns.length → ns.Nodup → ∀ x ∈ bs, ∀ y ∈ bs, tone bs ns x = tone bs ns y → x = y := by
  induction bs generalizing ns with
  | nil => intro _ _ x h; cases h
  | cons b bs ih =>
    intro h nd x hx y hy e
    cases ns with
    | nil => simp at h
    | cons n ns =>
      obtain ⟨n1, n2⟩ := List.nodup_cons.mp nd
      unfold tone at e
      by_cases c : b = x <;> by_cases d : b = y
      · exact c.symm.trans d
      · rw [if_pos c, if_neg d] at e
        rcases List.mem_cons.mp hy with z | hy
        · exact absurd z.symm d
        · exact absurd (e ▸ tone_mem (by simpa using h) y hy) n1
      · rw [if_neg c, if_pos d] at e
        rcases List.mem_cons.mp hx with z | hx
        · exact absurd z.symm c
        · exact absurd (e ▸ tone_mem (by simpa using h) x hx) n1
      · rw [if_neg c, if_neg d] at e
        rcases List.mem_cons.mp hx with z | hx
        · exact absurd z.symm c
        rcases List.mem_cons.mp hy with z | hy
        · exact absurd z.symm d
        exact ih (by simpa using h) n2 x hx y hy e
/-- the law's naming -/
def namN (k n : Nat) : List Int := (List.range n).map fun i : Nat => 1 + (i : Int) * ((k : Int) - 1)
theorem nam_pos {k n : Nat} (h : 1 ≤ k) : ∀ x ∈ namN k n, 0 < x := fun x hx => by
  obtain ⟨i, _, rfl⟩ := List.mem_map.mp hx
  have : 0 ≤ (i : Int) * ((k : Int) - 1) := Int.mul_nonneg (by omega) (by omega)
  omega
theorem nam_len (k n : Nat) : (namN k n).length = n := by unfold namN; rw [List.length_map, List.length_range]
theorem nam_nd (n : Nat) : (namN 2 n).Nodup := by
  unfold namN
  refine List.Pairwise.map _ (fun a b (h : a ≠ b) e => h ?_) List.nodup_range
  have : (1 + (a : Int) * (((2 : Nat) : Int) - 1)) = 1 + (b : Int) * (((2 : Nat) : Int) - 1) := e
  omega
theorem heard_ne {a b : Tale} (ha : Good a) (hb : Good b) {l : Lot} {k : Nat} (h : (k = 1 ∧ hw a l ≠ hw b l) ∨ (k = 2 ∧ thinT l a ≠ thinT l b)) : tonT (tone l (namN k l.length)) a ≠ tonT (tone l (namN k l.length)) b := by
  have ln : l.length = (namN k l.length).length := (nam_len k _).symm
  rcases h with ⟨rfl, h⟩ | ⟨rfl, h⟩
  · exact ton_one (tone_pos ln (nam_pos (by decide))) h
  · exact ton_two (tone_pos ln (nam_pos (by decide))) (tone_inj ln (nam_nd _)) ha hb h
end K6

/-! dict(zip(a, b)) of two tuples -/
namespace Dz
open PySem PySem.Spec PyProof.Rows L2 RZ
section
variable {prog : Program} {w : World} {A : Around} {E : Value → Shared → Prop} {s : Shared} {z TI TO T i1 i2 l1 l2 : Addr} {f : Bool} {oT : Obj} {n : Nat} {xs ys : Array Value}
/-- both walks at their turn n -/
structure At2 (h : Heap) (i1 i2 l1 l2 : Addr) (n : Nat) (xs ys : Array Value) : Prop where
  w1 : h.IsTupleIter i1 l1 n
  w2 : h.IsTupleIter i2 l2 n
  t1 : h.IsTuple l1 xs
  t2 : h.IsTuple l2 ys
theorem out_item {x y : Value} {Q : Option Value → Shared → Prop} (D : ZipApart z TI TO i1 i2 l1 l2) (zh : IsZipHeld s.heap z TI TO T f) (aT : s.heap.get? T = some oT) (ip : IsPair s.heap TI (.ref i1) (.ref i2)) (a2 : At2 s.heap i1 i2 l1 l2 n xs ys) (gx : xs[n]? = some x) (gy : ys[n]? = some y)
    (q : ∀ h', IsZipHeld h' z TI TO T true → h'.IsTupleIter i1 l1 (n + 1) → h'.IsTupleIter i2 l2 (n + 1) → IsPair h' s.heap.objs.size x y → (∀ c o, c ≠ z → c ≠ i1 → c ≠ i2 → s.heap.get? c = some o → h'.get? c = some o) → Q (some (.ref s.heap.objs.size)) { s with heap := h' }) :
    wpAny (model prog w) A (pyNext (.ref z)) Q E s := by
  have ty : s.TypeIs (.ref z) "zip" := ⟨_, zh, rfl⟩
  unfold pyNext
  refine wpAny_bind (wpAny_attempt (wpAny_callSpecial?_slot (name := Str.ofString "__next__") ty F.slot_zip_next (wpAny_call_entry F.slot_zip_next ty F.entry_zip_next ?_ (F.args_zip_next_1 _))))
  show wpAny _ _ (field (.ref z) 2 >>= _) _ _ _
  refine wpAny_bind (wpAny_field zh rfl (x := .bool false) rfl ?_)
  show wpAny _ _ (field (.ref z) 3 >>= _) _ _ _
  refine wpAny_bind (wpAny_field zh rfl (x := .ref TI) rfl (wpAny_bind (wpAny_seqItems ip rfl ?_)))
  show wpAny _ _ (Builtin.SmallTypes.ownedTupleIsFree (.ref z) >>= _) _ _ _
  refine wpAny_bind (wpAny_tupleHeld_zip zh aT fun g1 zg1 b1 => ?_)
  simp only [Bool.false_eq_true, if_false]
  refine wpAny_bind ?_
  rw [← Array.forIn_toList]
  simp only [List.forIn_cons, List.forIn_nil]
  refine wpAny_bind (wpAny_bind (wpAny_holding ?_))
  show wpAny _ _ (Builtin.SmallTypes.nextOf (.ref i1) >>= _) _ _ _
  refine wpAny_bind (nextOf_tuple_item (s := { s with heap := g1 }) (a2.w1.at fun o e => b1.extBut _ o D.i1z e) (a2.t1.at fun o e => b1.extBut _ o D.l1z e) gx fun g2 u1 b2 => wpAny_pure (wpAny_pure ?_))
  refine wpAny_bind (wpAny_bind (wpAny_holding ?_))
  show wpAny _ _ (Builtin.SmallTypes.nextOf (.ref i2) >>= _) _ _ _
  refine wpAny_bind (nextOf_tuple_item (s := { s with heap := g2 }) (a2.w2.at fun o e => b2.extBut _ o D.i12.symm (b1.extBut _ o D.i2z e)) (a2.t2.at fun o e => b2.extBut _ o D.l2i1 (b1.extBut _ o D.l2z e)) gy fun g3 u2 b3 => wpAny_pure (wpAny_pure (wpAny_pure ?_)))
  show wpAny _ _ (newTuple [x, y] >>= _) _ _ _
  refine wpAny_bind (wpAny_newTuple ?_)
  have ez : g3.objs.size = s.heap.objs.size := by rw [b3.1, b2.1, b1.1]
  have zg3 : IsZipHeld g3 z TI TO T true := b3.extBut _ _ D.i2z.symm (b2.extBut _ _ D.i1z.symm zg1)
  have kp : ∀ c o, c ≠ z → c ≠ i1 → c ≠ i2 → s.heap.get? c = some o → g3.get? c = some o := fun c o n1 n2 n3 e => b3.extBut _ _ n3 (b2.extBut _ _ n2 (b1.extBut _ _ n1 e))
  refine wpAny_pure ⟨_, rfl, wpAny_pure ?_⟩
  show Q (some (.ref g3.objs.size)) _
  have np : IsPair (g3.push { cls := .type "tuple", data := .seq #[x, y] }) g3.objs.size x y := Heap.get?_push_size _ rfl
  rw [ez] at np ⊢
  have pu : ∀ {c : Addr} {o : Obj}, g3.get? c = some o → (g3.push { cls := .type "tuple", data := .seq #[x, y] }).get? c = some o := fun e => Heap.get?_push_of_some _ e
  exact q _ (pu zg3) ((u1.at fun o e => b3.extBut _ o D.i12 e).at fun o e => pu e) (u2.at fun o e => pu e) np fun c o n1 n2 n3 e => pu (kp c o n1 n2 n3 e)
theorem out_end {Q : Option Value → Shared → Prop} (hh : A.handled = none) (D : ZipApart z TI TO i1 i2 l1 l2) (zh : IsZipHeld s.heap z TI TO T f) (aT : s.heap.get? T = some oT) (ip : IsPair s.heap TI (.ref i1) (.ref i2)) (a2 : At2 s.heap i1 i2 l1 l2 n xs ys) (ge : xs[n]? = none ∨ ys[n]? = none)
    (q : ∀ h', (∀ c o, c ≠ z → c ≠ i1 → c ≠ i2 → s.heap.get? c = some o → h'.get? c = some o) → Q none { s with heap := h' }) : wpAny (model prog w) A (pyNext (.ref z)) Q E s := by
  have ty : s.TypeIs (.ref z) "zip" := ⟨_, zh, rfl⟩
  have fin : ∀ (h' : Heap) (e : Addr), (∀ c o, c ≠ z → c ≠ i1 → c ≠ i2 → s.heap.get? c = some o → h'.get? c = some o) → (∃ o, h'.get? e = some o ∧ o.cls = .type "StopIteration") → wpAny (model prog w) A (do let b ← isInstance (.ref e) (.type "StopIteration"); if b then pure none else Sem.raise (.ref e)) Q E { s with heap := h' } := fun h' e k ⟨o, ho, hc⟩ => wpAny_bind (wpAny_isInstance (T := "StopIteration") (b := true) ⟨o, ho, hc⟩ isSubtype_stop (wpAny_pure (q h' k)))
  unfold pyNext
  refine wpAny_bind (wpAny_attempt (wpAny_callSpecial?_slot (name := Str.ofString "__next__") ty F.slot_zip_next (wpAny_call_entry F.slot_zip_next ty F.entry_zip_next ?_ (F.args_zip_next_1 _))))
  show wpAny _ _ (field (.ref z) 2 >>= _) _ _ _
  refine wpAny_bind (wpAny_field zh rfl (x := .bool false) rfl ?_)
  show wpAny _ _ (field (.ref z) 3 >>= _) _ _ _
  refine wpAny_bind (wpAny_field zh rfl (x := .ref TI) rfl (wpAny_bind (wpAny_seqItems ip rfl ?_)))
  show wpAny _ _ (Builtin.SmallTypes.ownedTupleIsFree (.ref z) >>= _) _ _ _
  refine wpAny_bind (wpAny_tupleHeld_zip zh aT fun g1 zg1 b1 => ?_)
  simp only [Bool.false_eq_true, if_false]
  refine wpAny_bind ?_
  rw [← Array.forIn_toList]
  simp only [List.forIn_cons, List.forIn_nil]
  refine wpAny_bind (wpAny_bind (wpAny_holding ?_))
  show wpAny _ _ (Builtin.SmallTypes.nextOf (.ref i1) >>= _) _ _ _
  cases gx : xs[n]? with
  | none => exact wpAny_bind (nextOf_tuple_end (s := { s with heap := g1 }) hh (a2.w1.at fun o e => b1.extBut _ o D.i1z e) (a2.t1.at fun o e => b1.extBut _ o D.l1z e) gx fun g2 e b2 he => fin g2 e (fun c o n1 n2 _ x => b2 _ _ n2 (b1.extBut _ _ n1 x)) he)
  | some x =>
    have gy : ys[n]? = none := ge.elim (fun h => by rw [gx] at h; cases h) id
    refine wpAny_bind (nextOf_tuple_item (s := { s with heap := g1 }) (a2.w1.at fun o e => b1.extBut _ o D.i1z e) (a2.t1.at fun o e => b1.extBut _ o D.l1z e) gx fun g2 u1 b2 => wpAny_pure (wpAny_pure ?_))
    refine wpAny_bind (wpAny_bind (wpAny_holding ?_))
    show wpAny _ _ (Builtin.SmallTypes.nextOf (.ref i2) >>= _) _ _ _
    exact wpAny_bind (nextOf_tuple_end (s := { s with heap := g2 }) hh (a2.w2.at fun o e => b2.extBut _ o D.i12.symm (b1.extBut _ o D.i2z e)) (a2.t2.at fun o e => b2.extBut _ o D.l2i1 (b1.extBut _ o D.l2z e)) gy fun g3 e b3 he => fin g3 e (fun c o n1 n2 n3 x => b3 _ _ n3 (b2.extBut _ _ n2 (b1.extBut _ _ n1 x))) he)
end
/-- a zip of two tuples as it is made -/
structure Fresh (h : Heap) (z TI TO i1 i2 l1 l2 : Addr) (xs ys : Array Value) : Prop where
  z0 : IsZip h z TI TO .none
  ip : IsPair h TI (.ref i1) (.ref i2)
  op : ∃ a b, IsPair h TO a b
  a2 : At2 h i1 i2 l1 l2 0 xs ys
theorem At2.up {h h' : Heap} {i1 i2 l1 l2 : Addr} {n : Nat} {xs ys : Array Value} (a : At2 h i1 i2 l1 l2 n xs ys) (k : ∀ c, c = i1 ∨ c = i2 ∨ c = l1 ∨ c = l2 → ∀ o, h.get? c = some o → h'.get? c = some o) : At2 h' i1 i2 l1 l2 n xs ys :=
  ⟨a.w1.at fun o => k i1 (.inl rfl) o, a.w2.at fun o => k i2 (.inr (.inl rfl)) o, a.t1.at fun o => k l1 (.inr (.inr (.inl rfl))) o, a.t2.at fun o => k l2 (.inr (.inr (.inr rfl))) o⟩
/-- the walk while the dict at d is filled: as made, or its last pair still out -/
def Mid (z TI TO i1 i2 l1 l2 d : Addr) (xs ys : Array Value) (n : Nat) (h : Heap) : Prop := IsPair h TI (.ref i1) (.ref i2) ∧ At2 h i1 i2 l1 l2 n xs ys ∧ ((IsZip h z TI TO .none ∧ ∃ a b, IsPair h TO a b) ∨ ∃ (T : Addr) (f : Bool) (oT : Obj), IsZipHeld h z TI TO T f ∧ h.get? T = some oT ∧ (T ≠ z ∧ T ≠ i1 ∧ T ≠ i2) ∧ T ≠ d)
section
variable {prog : Program} {w : World} {z TI TO i1 i2 l1 l2 d : Addr} {xs ys : Array Value}
theorem src {A : Around} (hh : A.handled = none) (D : ZipApart z TI TO i1 i2 l1 l2) (off : d ∉ [z, TI, TO, i1, i2, l1, l2]) (len : xs.size = ys.size) : PairSrc prog w A z d [z, TO, i1, i2] xs.size (fun i k v => xs[i]? = some k ∧ ys[i]? = some v) (Mid z TI TO i1 i2 l1 l2 d xs ys) := by
  simp only [List.mem_cons, List.not_mem_nil, or_false, not_or] at off
  obtain ⟨nz, nTI, nTO, n1, n2, m1, m2⟩ : d ≠ z ∧ d ≠ TI ∧ d ≠ TO ∧ d ≠ i1 ∧ d ≠ i2 ∧ d ≠ l1 ∧ d ≠ l2 := off
  refine ⟨by simp only [List.mem_cons, List.not_mem_nil, or_false, not_or]; exact ⟨nz, nTO, n1, n2⟩, ?_, ?_, ?_⟩
  · rintro i h h' ⟨ip, a2, st⟩ k
    refine ⟨k _ _ nTI.symm ip, a2.up ?_, st.imp (fun ⟨z0, a, b, op⟩ => ⟨k _ _ nz.symm z0, a, b, k _ _ nTO.symm op⟩) fun ⟨T, f, oT, zh, aT, r, rd⟩ => ⟨T, f, oT, k _ _ nz.symm zh, k _ _ rd aT, r, rd⟩⟩
    rintro c (rfl | rfl | rfl | rfl) o e
    · exact k _ _ n1.symm e
    · exact k _ _ n2.symm e
    · exact k _ _ m1.symm e
    · exact k _ _ m2.symm e
  · rintro i s Q E li ⟨ip, a2, st⟩ ld q
    have gx : xs[i]? = some xs[i] := Array.getElem?_eq_getElem li
    have gy : ys[i]? = some (ys[i]'(len ▸ li)) := Array.getElem?_eq_getElem (len ▸ li)
    have old : ∀ {c : Addr} {o : Obj}, s.heap.get? c = some o → s.heap.objs.size ≠ c := fun e => (Nat.ne_of_lt (Heap.lt_size e)).symm
    have o1 : s.heap.objs.size ≠ i1 := let ⟨_, e, _⟩ := a2.w1; old e
    have o2 : s.heap.objs.size ≠ i2 := let ⟨_, e, _⟩ := a2.w2; old e
    rcases st with ⟨z0, a, b, op⟩ | ⟨T, f, oT, zh, aT, r, rd⟩
    · refine pyNext_zipT_item D z0 ip op a2.w1 a2.w2 a2.t1 a2.t2 gx gy fun h' c1 c2 c3 c4 c5 _ k => ?_
      refine q s.heap.objs.size _ _ h' s.toks ⟨gx, gy⟩ (.inl ⟨_, c5, rfl, _, rfl⟩) ⟨k _ _ D.TIz D.TITO D.TIi1 D.TIi2 ip, ⟨c3, c4, a2.t1.at fun o e => k _ o D.l1z D.l1TO D.l1i1 D.l1i2 e, a2.t2.at fun o e => k _ o D.l2z D.l2TO D.l2i1 D.l2i2 e⟩, .inr ⟨s.heap.objs.size, false, _, c1, c5, ⟨old z0, o1, o2⟩, (Nat.ne_of_lt ld).symm⟩⟩ fun c o nc e => ?_
      simp only [List.mem_cons, List.not_mem_nil, or_false, not_or] at nc
      exact k c o nc.1 nc.2.1 nc.2.2.1 nc.2.2.2 e
    · refine out_item D zh aT ip a2 gx gy fun h' c1 c2 c3 c4 k => ?_
      refine q s.heap.objs.size _ _ h' s.toks ⟨gx, gy⟩ (.inl ⟨_, c4, rfl, _, rfl⟩) ⟨k _ _ D.TIz D.TIi1 D.TIi2 ip, ⟨c2, c3, a2.t1.at fun o e => k _ o D.l1z D.l1i1 D.l1i2 e, a2.t2.at fun o e => k _ o D.l2z D.l2i1 D.l2i2 e⟩, .inr ⟨T, true, oT, c1, k _ _ r.1 r.2.1 r.2.2 aT, r, rd⟩⟩ fun c o nc e => ?_
      simp only [List.mem_cons, List.not_mem_nil, or_false, not_or] at nc
      exact k c o nc.1 nc.2.2.1 nc.2.2.2 e
  · rintro s Q E ⟨ip, a2, st⟩ q
    have no : xs[xs.size]? = none ∨ ys[xs.size]? = none := .inl (Array.getElem?_eq_none (Nat.le_refl _))
    rcases st with ⟨z0, a, b, op⟩ | ⟨T, f, oT, zh, aT, r, rd⟩
    · refine pyNext_zipT_end hh D z0 ip op a2.w1 a2.w2 a2.t1 a2.t2 no fun h' k => q h' s.toks fun c o nc e => ?_
      simp only [List.mem_cons, List.not_mem_nil, or_false, not_or] at nc
      exact k c o nc.1 nc.2.1 nc.2.2.1 nc.2.2.2 e
    · refine out_end hh D zh aT ip a2 no fun h' k => q h' s.toks fun c o nc e => ?_
      simp only [List.mem_cons, List.not_mem_nil, or_false, not_or] at nc
      exact k c o nc.1 nc.2.2.1 nc.2.2.2 e
theorem arg (D : ZipApart z TI TO i1 i2 l1 l2) (len : xs.size = ys.size) : PairArg prog w "zip" z [z, TI, TO, i1, i2, l1, l2] [z, TO, i1, i2] xs.size (fun i k v => xs[i]? = some k ∧ ys[i]? = some v) (fun h => Fresh h z TI TO i1 i2 l1 l2 xs ys) where
  notDict := by decide
  type := fun _ f => ⟨_, f.z0, rfl⟩
  keep := fun h h' f k => ⟨k _ _ f.z0, k _ _ f.ip, let ⟨a, b, o⟩ := f.op; ⟨a, b, k _ _ o⟩, f.a2.up fun c _ o e => k c o e⟩
  there := fun h f b m => by
    simp only [List.mem_cons, List.not_mem_nil, or_false] at m
    obtain ⟨z0, ip, ⟨_, _, op⟩, ⟨⟨_, e1, _⟩, ⟨_, e2, _⟩, ⟨_, e3, _⟩, ⟨_, e4, _⟩⟩⟩ := f
    rcases m with e | e | e | e | e | e | e <;> subst e
    · exact ⟨_, z0⟩
    · exact ⟨_, ip⟩
    · exact ⟨_, op⟩
    · exact ⟨_, e1⟩
    · exact ⟨_, e2⟩
    · exact ⟨_, e3⟩
    · exact ⟨_, e4⟩
  sub := fun b m => by
    simp only [List.mem_cons, List.not_mem_nil, or_false] at m ⊢
    rcases m with e | e | e | e
    · exact .inl e
    · exact .inr (.inr (.inl e))
    · exact .inr (.inr (.inr (.inl e)))
    · exact .inr (.inr (.inr (.inr (.inl e))))
  noKeys := fun A s Q E hA f q => getAttrOr_miss_zip f.z0 rfl rfl rfl zip_no_keys (by decide +kernel) hA q
  iter := fun A s d Q E hA f _ off q => wpAny_pyIter_zip f.z0 (q z [z, TO, i1, i2] (Mid z TI TO i1 i2 l1 l2 d xs ys) s.heap s.toks (src hA D off len) ⟨f.ip, f.a2, .inl ⟨f.z0, f.op⟩⟩ (fun _ _ e => e) fun b m => .inl m)
end
/-- values by keys, as they stand on the heap -/
theorem kv_zip {P : Program} {w : World} : ∀ {ks : List Key} {ys : List V} {us vs : List Value}, Vals (ks.map kV) us → Vals ys vs → ks.length = ys.length →
    ∃ prs : List (Key × Value), KV (ks.zip ys) prs ∧ prs.length = ks.length ∧ ∀ (i : Nat) (u v : Value), us[i]? = some u → vs[i]? = some v → ∃ k, prs[i]? = some (k, v) ∧ (mixKind P w).is k u = true
  | [], ys, us, vs, h1, h2, _ => ⟨[], .nil, rfl, fun i u v e _ => by cases h1; simp at e⟩
  | k :: ks, [], us, vs, h1, h2, l => by simp at l
  | k :: ks, y :: ys, us, vs, h1, h2, l => by
    rw [List.map_cons] at h1
    cases h1 with
    | cons a1 t1 =>
    cases h2 with
    | cons a2 t2 =>
    obtain ⟨prs, r, pl, pf⟩ := kv_zip (P := P) (w := w) t1 t2 (by simpa using l)
    refine ⟨(k, _) :: prs, .cons ⟨rfl, a2⟩ r, by rw [List.length_cons, List.length_cons, pl], fun i u v e1 e2 => ?_⟩
    cases i with
    | zero =>
      rw [List.getElem?_cons_zero] at e1 e2
      cases e1
      cases e2
      exact ⟨k, rfl, kV_is a1⟩
    | succ i =>
      rw [List.getElem?_cons_succ] at e1 e2
      obtain ⟨k', e, h⟩ := pf i u v e1 e2
      exact ⟨k', by rw [List.getElem?_cons_succ]; exact e, h⟩
section
variable {X : Cx} {e e2 : Expr} {ta : TA} {p p2 pos pos2 : Pos}
def tDictZip (K : PySem.W.Frag) (ta : TA) : TE := fun σ H Q => ta σ H fun vs H1 => ∃ (a b : Addr) (ks : List Key) (ys : List V), vs = [.ref a, .ref b] ∧ SqT K H1 a (ks.map kV) ∧ SqT K H1 b ys ∧ ks.length = ys.length ∧ ∀ d, H1 d = none → Q (.ref d) (upd H1 d (.dK (mergeK [] (ks.zip ys))))
theorem pe_dictZip (hc : X.calm = true) (hg : Gl X "dict") (hm : X.mg "dict" = none) (hg2 : Gl X "zip") (hm2 : X.mg "zip" = none) (ha : PA X [e, e2] ta)
    (hs : starEach [e, e2] X.env = (false, eval e X.env) :: starEach [e2] X.env := by rfl) (hpl : (backTo pos2 (starEach [e2] X.env)).any (·.1) = false := by rfl) :
    PE X (.Call (.Name "dict" p) [.Call (.Name "zip" p2) [e, e2] [] pos2] [] pos) (tDictZip X.K ta) := by
  refine ⟨fun pins s σ H Q I h => ?_⟩
  refine wpAny_Call_Name_kw (ld_blt I hg hm (by rfl) ?_ (by decide) (by decide))
  refine PyProof.Rows.callWith_type1 ?_ (by rfl) (by rfl)
  refine Calls.spliced_cons ?_
  refine Call_ (ld_blt I hg2 hm2 PyProof.Rows.boot_zip (PyProof.Rows.callWith_type1 (thn (ha.run pos2 pins s σ H _ I h) fun us s1 ⟨vs, H1, I1, r1, a, b, ks, ys, ex, sa, sb, len, q⟩ => ?_) hs hpl))
  subst ex
  obtain ⟨u1, u2, eu, ra, rb⟩ := vals2 r1
  subst eu
  cases ra
  cases rb
  obtain ⟨its, rv, pa, lz⟩ := I1.tuple sa
  obtain ⟨jts, rw2, pb, _⟩ := I1.tuple sb
  have l1 := rv.length
  have l2 := rw2.length
  rw [List.length_map] at l1 lz
  obtain ⟨oa, ga, _⟩ := id pa
  obtain ⟨ob, gb, _⟩ := id pb
  refine call_zipT (show s1.heap.IsTuple a its.toArray from pa) (show s1.heap.IsTuple b jts.toArray from pb) fun h1 z0 ip op w1 w2 _ k1 => ?_
  refine Calls.spliced_nil ?_
  obtain ⟨prs, rel, pl, pf⟩ := kv_zip (P := X.prog) (w := X.w) rv rw2 len
  have ez : its.toArray.size = jts.toArray.size := by simp; omega
  have ap := PySem.W.ktu_apart s1.heap.objs.size a b (Heap.lt_size ga) (Heap.lt_size gb)
  have t1 : h1.IsTuple a its.toArray := Heap.IsTuple.at (show s1.heap.IsTuple a its.toArray from pa) fun o e => k1 _ o e
  have t2 : h1.IsTuple b jts.toArray := Heap.IsTuple.at (show s1.heap.IsTuple b jts.toArray from pb) fun o e => k1 _ o e
  refine call_dict_pairs (s := { s1 with heap := h1 }) (knd := mixKind X.prog X.w) (kvs := prs) (arg ap ez) (I.ok.hd hc) ⟨z0, ip, ⟨_, _, op⟩, ⟨w1, w2, t1, t2⟩⟩ ⟨by rw [pl]; simp; omega, fun i u v ⟨e1, e2⟩ => pf i u v (by simpa using e1) (by simpa using e2)⟩ (by simp; omega) fun h2 tk hd k2 => ?_
  have big : s1.heap.objs.size ≤ h1.objs.size := by
    refine Nat.le_of_not_lt fun z => ?_
    have := Heap.lt_size z0
    omega
  have k : ∀ c o, s1.heap.get? c = some o → h2.get? c = some o := fun c o e => by
    have lc := Heap.lt_size e
    refine k2 c o (fun m => ?_) (k1 c o e)
    simp only [List.mem_cons, List.not_mem_nil, or_false] at m
    rcases m with h | h | h | h <;> rw [h] at lc
    · exact absurd lc (Nat.not_lt.mpr (Nat.le_add_right _ _))
    · exact absurd lc (Nat.not_lt.mpr (Nat.le_add_right _ _))
    · exact absurd lc (Nat.lt_irrefl _)
    · exact absurd lc (Nat.not_lt.mpr (Nat.le_add_right _ _))
  have hm' : (h1.objs.size == sysModules) = false := beq_eq_false_iff_ne.mpr (Nat.ne_of_gt (Nat.lt_of_lt_of_le I1.big big))
  have ln : (mergeK [] (ks.zip ys)).length ≤ sizeLine := by
    refine Nat.le_trans (length_mergeK _ []) ?_
    rw [List.length_nil, Nat.zero_add, List.length_zip]
    omega
  exact ⟨.ref h1.objs.size, upd H1 h1.objs.size (.dK (mergeK [] (ks.zip ys))), I1.laid (t' := tk) k big (show ObjOk X.prog X.w _ _ _ (.dK (mergeK [] (ks.zip ys))) from ⟨ln, hm', merged [] prs, KV.merge rel .nil, hd⟩), rfl, q _ (I1.hok.fresh big)⟩
end
end Dz

namespace K6
open PySem PySem.Spec PyProof.Rows L2 Hb St Sq Ow En Zp RZ Rd Xb Da Lo
/-! ### whole numbers, by their data -/
def intD : PyData → Bool
  | .int _ => true
  | _ => false
theorem pi_seqK {X : Cx} {K : PySem.W.Frag} {tg l : Expr} {tl : TE} (hK : X.K = K) (hl : PE X l tl) : PI X tg l (iSeq K tl) := by
  cases hK
  exact pi_seq hl
theorem at_intR {ns : List Int} {i : Nat} {y : V} (ey : (ns.map V.int)[i]? = some y) : ∃ x, ns[i]? = some x ∧ y = .int x := by
  rw [List.getElem?_map] at ey
  cases c : ns[i]? with
  | none => rw [c] at ey; cases ey
  | some x => rw [c] at ey; exact ⟨x, rfl, (Option.some.inj ey).symm⟩
/-- a lot of tones; a tale of them -/
def LotN (H : Hp) (v : V) (l : List Int) : Prop := ∃ b, v = .ref b ∧ H b = some (.tup (l.map V.int))
theorem LotN.on {H H' : Hp} {v : V} {l : List Int} (h : LotN H v l) (k : TupK H H') : LotN H' v l := let ⟨b, e, t⟩ := h; ⟨b, e, k _ _ t⟩
def TalN (H : Hp) (v : V) (t : List (List Int)) : Prop := ∃ a its, v = .ref a ∧ H a = some (.tup its) ∧ All2 (LotN H) its t
theorem TalN.on {H H' : Hp} {v : V} {t : List (List Int)} (h : TalN H v t) (k : TupK H H') : TalN H' v t := let ⟨a, its, e, ea, al⟩ := h; ⟨a, its, e, k _ _ ea, al.imp fun _ _ r => r.on k⟩
section
variable {P : Program} {w : World} {K : PySem.W.Frag} {mg : Str → Option Value} {base : Heap}
abbrev s_is_integer : Stmt := top 6
theorem sc_is_integer : FnScope ["value"] ["value"] (defScope s_is_integer) := ⟨rfl, rfl, rfl, by decide +kernel, rfl, by decide +kernel, by decide +kernel⟩
def spIsInt (K : PySem.W.Frag) : Sp := fun vs H Q _ => ∃ i : Int, vs = [.int i] ∧ Q (.bl true) H
theorem ok_isint {f : Addr} {fd : FuncData} (F : Fun K "is_integer" "is_integer" s_is_integer f fd) (n_bool : mg "bool" = none) (n_int : mg "int" = none) (n_isinstance : mg "isinstance" = none) : FnOk P w K mg base CX0 1 f fd ["value"] (spIsInt K) := by
  refine F.ok sc_is_integer (fun vs H Q E h => ?_) (fun cdv A outer s H vs Q E hr h => ?_)
  · obtain ⟨_, rfl, _⟩ := h
    rfl
  · obtain ⟨i, rfl, q⟩ := h
    refine ⟨_, (pss_one (ps_ret (pe_and (pe_callB call_isi (by rfl) n_isinstance (by decide +kernel) (pa_cons (pv 0) (pa_cons (pe_bltn (v := .ty "int") (by rfl) n_int (by decide +kernel) rfl) pa_nil))) (pe_one (pe_not (pe_callB call_isi (by rfl) n_isinstance (by decide +kernel) (pa_cons (pv 0) (pa_cons (pe_bltn (v := .ty "bool") (by rfl) n_bool (by decide +kernel) rfl) pa_nil)))))))), ?_⟩
    have ty := ty_dp (K := K) (H := H) (.int i)
    have ki : PySem.W.kitOne K (tyD (.int i)) (.type "int") = some true := kit_ty (a := "int") (b := "int") (r := true) (by decide +kernel)
    have kb : PySem.W.kitOne K (tyD (.int i)) (.type "bool") = some false := kit_ty (a := "int") (b := "bool") (r := false) (by decide +kernel)
    refine ⟨_, rfl, _, .ty "int", _, _, _, rfl, .ty "int", ty, ki, _, rfl, iteT ?_⟩
    exact ⟨_, rfl, _, .ty "bool", _, _, _, rfl, .ty "bool", ty, kb, _, rfl, q⟩
abbrev s_is_number : Stmt := top 7
theorem sc_is_number : FnScope ["value"] ["value"] (defScope s_is_number) := ⟨rfl, rfl, rfl, by decide +kernel, rfl, by decide +kernel, by decide +kernel⟩
def spIsNum (K : PySem.W.Frag) : Sp := fun vs H Q _ => ∃ i : Int, vs = [.int i] ∧ 0 ≤ i ∧ Q (.bl true) H
theorem ok_isnum {f : Addr} {fd : FuncData} (F : Fun K "is_number" "is_number" s_is_number f fd) (C_is_integer : Cl P w K mg base "is_integer" ["value"] [] 1 (spIsInt K)) : FnOk P w K mg base CX0 2 f fd ["value"] (spIsNum K) := by
  refine F.ok sc_is_number (fun vs H Q E h => ?_) (fun cdv A outer s H vs Q E hr h => ?_)
  · obtain ⟨_, rfl, _⟩ := h
    rfl
  · obtain ⟨i, rfl, i0, q⟩ := h
    refine ⟨_, (pss_one (ps_ret (pe_and (pe_use C_is_integer (hr.mono (by decide)) rfl (pa_cons (pv 0) pa_nil)) (pe_one (pe_cmpR op_ge (pv 0) pe_int (nomark _)))))), ?_⟩
    refine ⟨_, rfl, i, rfl, _, rfl, iteT ⟨_, rfl, _, _, rfl, rfl, ?_⟩⟩
    show Q (.bl (decide (0 ≤ i))) H
    rw [decide_eq_true i0]
    exact q
/-! ### is_name_lot, need_bells, need_naming -/
abbrev s_is_name_lot : Stmt := top 17
theorem sc_is_name_lot : FnScope ["value"] ["value"] (defScope s_is_name_lot) := ⟨rfl, rfl, rfl, by decide +kernel, rfl, by decide +kernel, by decide +kernel⟩
def spNmLot (K : PySem.W.Frag) : Sp := fun vs H Q _ => ∃ (b : Addr) (l : Lot), vs = [.ref b] ∧ H b = some (.tup (l.map V.str)) ∧ Sm1 (lD l) ∧ (l ≠ [] → lotD (lD l) = true) ∧ ∀ H', Same H H' → Q (.bl true) H'
theorem ok_nmlot {f : Addr} {fd : FuncData} (F : Fun K "is_name_lot" "is_name_lot" s_is_name_lot f fd) (C_is_lot : Cl P w K mg base "is_lot" ["value"] [] 2 (spIsLot K)) (n_isinstance : mg "isinstance" = none) (n_len : mg "len" = none) (n_tuple : mg "tuple" = none) : FnOk P w K mg base CX0 3 f fd ["value"] (spNmLot K) := by
  refine F.ok sc_is_name_lot (fun vs H Q E h => ?_) (fun cdv A outer s H vs Q E hr h => ?_)
  · obtain ⟨_, _, rfl, _⟩ := h
    rfl
  · obtain ⟨b, l, rfl, eb, sm, ok, q⟩ := h
    refine ⟨_, (pss_one (ps_ret (pe_or (pe_use C_is_lot (hr.mono (by decide)) rfl (pa_cons (pv 0) pa_nil)) (pe_one (pe_and (pe_callB call_isi (by rfl) n_isinstance (by decide +kernel) (pa_cons (pv 0) (pa_cons (pe_bltn (v := .ty "tuple") (by rfl) n_tuple (by decide +kernel) rfl) pa_nil))) (pe_one (pe_cmpR op_eq (pe_callB call_len_seq (by rfl) n_len PySem.boot_len (pa_cons (pv 0) pa_nil)) pe_int (nomark _)))))))), ?_⟩
    have dv : Dp K H (.ref b) (lD l) := LotH.dp ⟨b, rfl, eb⟩
    refine ⟨_, rfl, _, _, rfl, dv, sm, fun H1 s1 => ⟨_, rfl, ?_⟩⟩
    have e1 := s1 _ _ eb
    have ty := ty_dp (dp_same s1 dv)
    have kt := kit_tup (dp_same s1 dv)
    by_cases c : l = []
    · subst c
      refine iteF ⟨_, rfl, _, .ty "tuple", _, _, _, rfl, .ty "tuple", ty, kt, _, rfl, iteT ⟨_, rfl, b, _, rfl, .inr (SqT.of e1), rfl, ?_⟩⟩
      exact q _ s1
    · rw [ok c]
      exact iteT (q _ s1)
abbrev s_need_bells : Stmt := top 31
theorem sc_need_bells : FnScope ["bells"] ["bells"] (defScope s_need_bells) := ⟨rfl, rfl, rfl, by decide +kernel, rfl, by decide +kernel, by decide +kernel⟩
def spBellsOk (K : PySem.W.Frag) : Sp := fun vs H Q _ => ∃ (b : Addr) (l : Lot), vs = [.ref b] ∧ H b = some (.tup (l.map V.str)) ∧ Sm1 (lD l) ∧ (l ≠ [] → lotD (lD l) = true) ∧ ∀ H', Same H H' → Q .non H'
theorem ok_bellsok {f : Addr} {fd : FuncData} (F : Fun K "need_bells" "need_bells" s_need_bells f fd) (C_is_name_lot : Cl P w K mg base "is_name_lot" ["value"] [] 3 (spNmLot K)) : FnOk P w K mg base CX0 4 f fd ["bells"] (spBellsOk K) := by
  refine F.ok sc_need_bells (fun vs H Q E h => ?_) (fun cdv A outer s H vs Q E hr h => ?_)
  · obtain ⟨_, _, rfl, _⟩ := h
    rfl
  · obtain ⟨b, l, rfl, eb, sm, ok, q⟩ := h
    refine ⟨_, (pss_one (ps_if (pt_not (pt_val (pe_use C_is_name_lot (hr.mono (by decide)) rfl (pa_cons (pv 0) pa_nil)))) (pss_one (ps_never)) pss_nil)), ?_⟩
    exact ⟨_, rfl, b, l, rfl, eb, sm, ok, fun H1 s1 => ⟨_, rfl, iteF (q _ s1)⟩⟩
abbrev s_need_naming : Stmt := top 32
theorem sc_need_naming : FnScope ["bells", "naming", "tone"] ["bells", "naming"] (defScope s_need_naming) := ⟨rfl, rfl, rfl, by decide +kernel, rfl, by decide +kernel, by decide +kernel⟩
def spNaming (K : PySem.W.Frag) : Sp := fun vs H Q _ => ∃ (b n : Addr) (l : Lot) (ns : List Int), vs = [.ref b, .ref n] ∧ H b = some (.tup (l.map V.str)) ∧ H n = some (.tup (ns.map V.int)) ∧ l.length = ns.length ∧ ns.length ≤ 1000 ∧ (∀ i ∈ ns, 0 ≤ i) ∧ ∀ H', Same H H' → Q .non H'
theorem ok_naming {f : Addr} {fd : FuncData} (F : Fun K "need_naming" "need_naming" s_need_naming f fd) (C_is_number : Cl P w K mg base "is_number" ["value"] [] 2 (spIsNum K)) (n_all : mg "all" = none) (n_isinstance : mg "isinstance" = none) (n_len : mg "len" = none) (n_tuple : mg "tuple" = none) : FnOk P w K mg base CX0 3 f fd ["bells", "naming"] (spNaming K) := by
  refine F.ok sc_need_naming (fun vs H Q E h => ?_) (fun cdv A outer s H vs Q E hr h => ?_)
  · obtain ⟨_, _, _, _, rfl, _⟩ := h
    rfl
  · obtain ⟨b, n, l, ns, rfl, eb, en, ll, ln, pos, q⟩ := h
    refine ⟨_, (pss_one (ps_if (PW.pt (pw_or (pt_not (pt_val (pe_callB call_isi (by rfl) n_isinstance (by decide +kernel) (pa_cons (pv 1) (pa_cons (pe_bltn (v := .ty "tuple") (by rfl) n_tuple (by decide +kernel) rfl) pa_nil))))) (pw_or (pt_cmpR op_ne (pe_callB call_len_seq (by rfl) n_len PySem.boot_len (pa_cons (pv 1) pa_nil)) (pe_callB call_len_seq (by rfl) n_len PySem.boot_len (pa_cons (pv 0) pa_nil)) (nomark _)) (pw_or1 (pt_not (pt_val (pe_callB (cr_all rfl) (by rfl) n_all (by decide +kernel) (pa_cons (pe_lc (own := [("tone", 2)]) (g := gName 2) rfl sc_need_naming.nd (pi_seq (pv 1)) (blkOk_by (N := ["bells", "naming", "tone"]) (sc := defScope s_need_naming) (by decide +kernel)) (fun _ _ _ _ _ => pg_name (i := 2) sc_need_naming.nd rfl (Or.inl rfl)) (fun _ _ _ _ _ => pts_nil) (fun _ _ _ _ _ => pe_use C_is_number (hr.mono (by decide)) rfl (pa_cons (pv 2) pa_nil))) pa_nil)))))))) (pss_one (ps_never)) pss_nil)), ?_⟩
    have ty := ty_tup (K := K) (SqT.of en)
    have kt : PySem.W.kitOne K (.type "tuple") (.type "tuple") = some true := kit_ty (a := "tuple") (b := "tuple") (r := true) (by decide +kernel)
    refine ⟨_, rfl, _, .ty "tuple", _, _, _, rfl, .ty "tuple", ty, kt, _, rfl, iteF ?_⟩
    refine ⟨_, rfl, n, _, rfl, .inr (SqT.of en), _, rfl, b, _, rfl, .inr (SqT.of eb), rfl, _, rfl, ?_⟩
    rw [List.length_map, List.length_map, decide_eq_true (by rw [ll])]
    show ite _ _ _
    refine iteF ⟨_, rfl, n, _, rfl, .inr (SqT.of en), fun J S W0 z0 D kD => ?_⟩
    refine lc_mf (ds := ns) W0 (fun _ => true) (fun _ y _ => y = .bl true) z0 kD (by rw [List.length_map]) (fun i y d H' ey ed s m => ?_) (fun H1 ys s1 e1 al1 => ?_)
    · obtain ⟨d', ed', rfl⟩ := at_intR ey
      obtain rfl : d' = d := Option.some.inj (ed'.symm.trans ed)
      refine ⟨rfl, _, rfl, d', rfl, pos d' (at_mem ed), ?_⟩
      exact mf_yes m kD (fun _ _ _ _ _ h => h) ed (by omega) (Same.refl _) rfl rfl
    · rw [Rd.filter_all] at al1
      have ey := bl_map (f := fun _ => true) al1
      refine ⟨D, _, rfl, SqL.of (by rw [← ey]; exact e1), ?_⟩
      rw [all_map, show ns.all (fun _ => true) = true from List.all_eq_true.mpr fun _ _ => rfl]
      exact ⟨_, rfl, iteF (q _ s1)⟩
/-! ### tones_in -/
abbrev s_tones_in : Stmt := top 34
theorem sc_tones_in : FnScope ["lots", "bells", "naming", "tones", "heard", "lot", "name"] ["lots", "bells", "naming"] (defScope s_tones_in) := ⟨rfl, rfl, rfl, by decide +kernel, rfl, by decide +kernel, by decide +kernel⟩
def spTones (K : PySem.W.Frag) : Sp := fun vs H Q _ => ∃ (v : V) (b n : Addr) (t : Tale) (l : Lot) (ns : List Int), vs = [v, .ref b, .ref n] ∧ TalH H v t ∧ TlOk t ∧ (∀ m ∈ t, m.length < 64) ∧ H b = some (.tup (l.map V.str)) ∧ H n = some (.tup (ns.map V.int)) ∧ l.length = ns.length ∧ l.Nodup ∧ ∀ p H', Same H H' → TalN H' (.ref p) (tonT (tone l ns) t) → Q (.ref p) H'
theorem ok_tones {f : Addr} {fd : FuncData} (F : Fun K "tones_in" "tones_in" s_tones_in f fd)  (C_as_lot : Cl P w K mg base "as_lot" ["values"] [] 1 (spLot K)) (n_dict : mg "dict" = none) (n_tuple : mg "tuple" = none) (n_zip : mg "zip" = none) : FnOk P w K mg base CX0 2 f fd ["lots", "bells", "naming"] (spTones K) := by
  refine F.ok sc_tones_in (fun vs H Q E h => ?_) (fun cdv A outer s H vs Q E hr h => ?_)
  · obtain ⟨_, _, _, _, _, _, rfl, _⟩ := h
    rfl
  · obtain ⟨v, b, n, t, l, ns, rfl, ht, ok, sh, eb, en, ll, nd, q⟩ := h
    refine ⟨_, (pss_cons (ps_set (i := 3) sc_tones_in.nd rfl (Or.inr rfl) (Dz.pe_dictZip rfl (by rfl) n_dict (by rfl) n_zip (pa_cons (pv 1) (pa_cons (pv 2) pa_nil))))
    (Evl.pss_cut (ps_setLc (i := 4) (own := [("lot", 5)]) (g := gName 5) (by rfl) sc_tones_in.nd rfl rfl (sw_true rfl rfl rfl (by decide +kernel)) (pi_seq (pv 0)) (blkOk_by (N := ["lots", "bells", "naming", "tones", "heard", "lot", "name"]) (sc := defScope s_tones_in) (by decide +kernel)) (fun _ _ _ _ _ => pg_name (i := 5) sc_tones_in.nd rfl (Or.inl rfl)) (fun _ _ _ _ _ => pts_nil) (fun _ _ _ _ _ => pe_use C_as_lot (hr.mono (by decide)) rfl (pa_cons (pe_lc (own := [("name", 6)]) (g := gName 6) rfl sc_tones_in.nd (pi_seqK (K := K) rfl (pv 5)) (blkOk_by (N := ["lots", "bells", "naming", "tones", "heard", "lot", "name"]) (sc := { kind := .function, names := [((".0" : Str), .local), (("lot" : Str), .local), (("as_lot" : Str), .globalImplicit), (("tones" : Str), .cell)], isGenerator := false, isCoroutine := false }) (by decide +kernel)) (fun _ _ _ _ _ => pg_name (i := 6) sc_tones_in.nd rfl (Or.inl rfl)) (fun _ _ _ _ _ => pts_one (pt_cmpR op_gt (pe_dget2 (hu_of hr) (pv 3) (pv 6) pe_int ⟨rfl, rfl, rfl, rfl⟩) pe_int (nomark _))) (fun _ _ _ _ _ => pe_dget2 (hu_of hr) (pv 3) (pv 6) pe_int ⟨rfl, rfl, rfl, rfl⟩)) pa_nil)))
    (pss_one (ps_ret (pe_callTy call_tuple_of (by rfl) n_tuple (by decide +kernel) (pa_cons (pe_lc (own := [("lot", 5)]) (g := gName 5) rfl sc_tones_in.nd (pi_seq (pv 4)) (blkOk_by (N := ["lots", "bells", "naming", "tones", "heard", "lot", "name"]) (sc := defScope s_tones_in) (by decide +kernel)) (fun _ _ _ _ _ => pg_name (i := 5) sc_tones_in.nd rfl (Or.inl rfl)) (fun _ _ _ _ _ => pts_one (pt_truthK K rfl (pv 5) (fun _ => rfl))) (fun _ _ _ _ _ => pv 5)) pa_nil)))))), ?_⟩
    obtain ⟨a, its, rfl, ea, al⟩ := id ht
    have l1 := ok.len
    refine ⟨_, rfl, _, rfl, b, n, l.map Sum.inr, ns.map V.int, rfl, ?_, SqT.of en, by rw [List.length_map, List.length_map]; exact ll, fun d kd => ?_⟩
    · rw [List.map_map]; exact SqT.of eb
    have s1 := same_new kd (.dK (mergeK [] ((l.map (Sum.inr : Str → Key)).zip (ns.map V.int))))
    have ed : upd H d (.dK (mergeK [] ((l.map (Sum.inr : Str → Key)).zip (ns.map V.int)))) d = some (.dK ((l.map (Sum.inr : Str → Key)).zip (ns.map V.int))) := by
      rw [upd_same, merge_new]
      · rfl
      · rw [List.nil_append, List.map_fst_zip (by rw [List.length_map, List.length_map]; omega)]
        exact List.Pairwise.map _ (fun x y (h : x ≠ y) e => h (by injection e)) nd
    generalize upd H d (.dK (mergeK [] ((l.map (Sum.inr : Str → Key)).zip (ns.map V.int)))) = H1 at s1 ed ⊢
    have ea1 := s1 _ _ ea
    have isd : ∀ {H' : Hp}, Same H1 H' → IsD H' d := fun s => .inl ⟨_, .inl (s _ _ ed)⟩
    refine ⟨fun σ H' => ∃ (D : Addr) (ys : List V) (o5 o6 : Option V), σ = [some (.ref a), some (.ref b), some (.ref n), some (.ref d), some (.ref D), o5, o6] ∧ Same H1 H' ∧ H' D = some (.lst ys) ∧ All2 (LotN H') ys (t.map (tonL (tone l ns))), ?_, ?_⟩
    · refine ⟨_, rfl, a, its, rfl, SqX.tup ea1, fun J S W0 z0 D kD => ?_⟩
      refine lc_mf (ds := t) W0 (fun _ => true) (fun H y m => LotN H y (tonL (tone l ns) m)) z0 kD al.len (fun i y m H2 ey em s2 mf => ?_) (fun H2 ys s2 e2 al2 => ?_)
      · obtain ⟨m', em', mb, rfl, emb⟩ := al.get ey
        obtain rfl : m' = m := Option.some.inj (em'.symm.trans em)
        have lm := sh m' (at_mem em)
        refine ⟨rfl, _, rfl, mb, _, rfl, SqX.tup (s2 _ _ (s1 _ _ emb)), fun J2 S2 W2 z2 D2 kD2 => ?_⟩
        refine lc_mf (ds := m') W2 (fun x => decide (0 < tone l ns x)) (fun _ y x => y = .int (tone l ns x)) z2 kD2 (by rw [List.length_map]) (fun j y x H3 ey ex s3 mf3 => ?_) (fun H3 zs s3 e3 al3 => ?_)
        · obtain ⟨x', ex', rfl⟩ := str_at ey
          obtain rfl : x' = x := Option.some.inj (ex'.symm.trans ex)
          refine ⟨rfl, _, rfl, d, rfl, isd (s2.trans s3), _, rfl, _, DGet.k (k := Sum.inr x') ((s2.trans s3) _ _ ed), ?_⟩
          rw [tone_val ll]
          refine ⟨_, _, rfl, rfl, _, rfl, iteD (fun c => ?_) fun c => ?_⟩
          · refine ⟨_, rfl, d, rfl, isd (s2.trans s3), _, rfl, _, DGet.k (k := Sum.inr x') ((s2.trans s3) _ _ ed), ?_⟩
            rw [tone_val ll]
            exact mf_yes mf3 kD2 (fun _ _ _ _ _ h => h) ex (by omega) (Same.refl _) (decide_eq_true c) rfl
          · exact mf_no mf3 (fun _ _ _ _ _ h => h) ex (Same.refl _) (decide_eq_false c)
        · have ez := al3.map_eq (f := fun x => V.int (tone l ns x)) fun _ _ h => h
          rw [show ((m'.filter fun x => decide (0 < tone l ns x)).map fun x => V.int (tone l ns x)) = ((m'.filter fun x => decide (0 < tone l ns x)).map (tone l ns)).map V.int by rw [List.map_map]; rfl] at ez
          rw [ez] at e3
          refine ⟨D2, rfl, .inr ⟨_, SqX.lst e3, by rw [List.length_map]; have := List.length_filter_le (fun x => decide (0 < tone l ns x)) m'; omega, fun p H4 s4 e4 => ?_⟩⟩
          exact mf_yes mf kD (fun _ _ _ _ f h => h.on (.fix f)) em (by omega) (s3.trans s4) rfl ⟨p, rfl, e4⟩
      · rw [Rd.filter_all] at al2
        exact ⟨D, ys, _, _, rfl, s2, e2, al2.of_mapR⟩
    rintro σ H2 ⟨D, ys, o5, o6, rfl, s2, e2, al2⟩
    refine ⟨_, rfl, D, ys, rfl, SqX.lst e2, fun J S W0 z0 D2 kD2 => ?_⟩
    refine lc_mf (ds := t.map (tonL (tone l ns))) W0 (fun l => !decide (l = [])) (fun H y l => LotN H y l) z0 kD2 al2.len (fun i y m H' ey em s3 mf => ?_) (fun H3 zs s3 e3 al3 => ?_)
    · obtain ⟨m', em', mb, rfl, emb⟩ := al2.get ey
      obtain rfl : m' = m := Option.some.inj (em'.symm.trans em)
      refine ⟨rfl, _, rfl, !(m'.map V.int).isEmpty, .inr (.inl ⟨_, SqT.of (s3 _ _ emb), rfl⟩), ?_⟩
      have lt : (t.map (tonL (tone l ns))).length ≤ 100 := by rw [List.length_map]; exact l1
      cases m' with
      | nil => exact mf_no mf (fun _ _ _ _ f h => h.on (.fix f)) em (Same.refl _) rfl
      | cons x r => exact ⟨_, rfl, mf_yes mf kD2 (fun _ _ _ _ f h => h.on (.fix f)) em (by omega) (Same.refl _) rfl ⟨mb, rfl, s3 _ _ emb⟩⟩
    · refine ⟨D2, zs, rfl, .inl ⟨SqL.of e3, fun p hp => ?_⟩⟩
      have s4 := same_new hp (.tup zs)
      exact q p _ (((s1.trans s2).trans s3).trans s4) ⟨p, zs, rfl, upd_same, al3.imp fun _ _ r => r.on (.same s4)⟩
end
end K6

namespace K6
open PySem PySem.Spec PyProof.Rows L2 Hb St Sq Ow En Zp RZ Rd Xb Da Lo Cq LamX Lc Lp
theorem no_one {d : PyData} (h : taleD d = true) : firstNo [d] = none := by
  unfold firstNo
  rw [List.findIdx?_eq_none_iff]
  intro x hx
  rw [List.mem_singleton.mp hx, h]; rfl
theorem find_at {α : Type} {p : α → Bool} : ∀ {xs : List α} {i : Nat} {x : α}, xs[i]? = some x → (∀ y ∈ xs.take i, p y = false) → p x = true → xs.find? p = some x
  | [], i, x, e, _, _ => by simp at e
  | y :: ys, 0, x, e, _, h => by
    rw [List.getElem?_cons_zero] at e
    cases e
    rw [List.find?_cons, h]
  | y :: ys, i + 1, x, e, k, h => by
    rw [List.getElem?_cons_succ] at e
    rw [List.find?_cons, k y (by simp)]
    exact find_at e (fun z hz => k z (by rw [List.take_succ_cons]; exact List.mem_cons_of_mem _ hz)) h
theorem TlOk.good {t : Tale} (h : TlOk t) : Good t := fun l m => ⟨h.ne l m, h.asc l m⟩
/-- (how many tones, the lot or None) -/
def OptL (H : Hp) (v : V) : Option Lot → Prop
  | none => v = .non
  | some l => LotH H v l
theorem OptL.on {H H' : Hp} {v : V} {o : Option Lot} (h : OptL H v o) (k : TupK H H') : OptL H' v o := by
  cases o with
  | none => exact h
  | some l => exact LotH.on h k
def NdH (H : Hp) (v : V) (x : Nat × Option Lot) : Prop := ∃ r u, v = .ref r ∧ H r = some (.tup [.int (x.1 : Nat), u]) ∧ OptL H u x.2
theorem NdH.on {H H' : Hp} {v : V} {x : Nat × Option Lot} (h : NdH H v x) (k : TupK H H') : NdH H' v x := let ⟨r, u, e, t, o⟩ := h; ⟨r, u, e, k _ _ t, o.on k⟩
section
variable {P : Program} {w : World} {K : PySem.W.Frag} {mg : Str → Option Value} {base : Heap}
/-! ### heard_tones -/
abbrev s_heard_tones : Stmt := top 33
theorem sc_heard_tones : FnScope ["lots", "bells", "naming"] ["lots", "bells", "naming"] (defScope s_heard_tones) := ⟨rfl, rfl, rfl, by decide +kernel, rfl, by decide +kernel, by decide +kernel⟩
def spHeardT (K : PySem.W.Frag) : Sp := fun vs H Q _ => ∃ (v : V) (b n : Addr) (t : Tale) (l : Lot) (ns : List Int), vs = [v, .ref b, .ref n] ∧ TalH H v t ∧ TlOk t ∧ taleD (tD t) = true ∧ Sm2 (tD t) ∧ (∀ m ∈ t, m.length < 64) ∧ H b = some (.tup (l.map V.str)) ∧ Sm1 (lD l) ∧ (l ≠ [] → lotD (lD l) = true) ∧ H n = some (.tup (ns.map V.int)) ∧ l.length = ns.length ∧ ns.length ≤ 1000 ∧ (∀ i ∈ ns, 0 ≤ i) ∧ l.Nodup ∧ ∀ p H', Same H H' → TalN H' (.ref p) (tonT (tone l ns) t) → Q (.ref p) H'
theorem ok_heardt {f fn C : Addr} {fd : FuncData} (F : Fun K "heard_tones" "heard_tones" s_heard_tones f fd) (N : FnR P w K mg base (L2.CX P w) 4 fn (spNeedR K C)) (gN : mg "need_tales" = some (.ref fn)) (kN : PySem.W.keepIn K (.ref fn) = true) (C_need_bells : Cl P w K mg base "need_bells" ["bells"] [] 4 (spBellsOk K)) (C_need_naming : Cl P w K mg base "need_naming" ["bells", "naming"] [] 3 (spNaming K)) (C_tones_in : Cl P w K mg base "tones_in" ["lots", "bells", "naming"] [] 2 (spTones K)) : FnOk P w K mg base (L2.CX P w) 5 f fd ["lots", "bells", "naming"] (spHeardT K) := by
  refine F.okX sc_heard_tones (fun vs H Q E h => ?_) (fun cdv A outer s H vs Q E hr h => ?_)
  · obtain ⟨_, _, _, _, _, _, rfl, _⟩ := h
    rfl
  · obtain ⟨v, b, n, t, l, ns, rfl, ht, ok, td, s2, sh, eb, s1, lo, en, ll, ln, pos, nd, q⟩ := h
    refine ⟨_, (pss_cons (ps_expr (pe_goR N gN kN (hr.mono (by decide)) (E := fun _ => E) (fun σ => passAt (takes_of rfl rfl rfl rfl) σ) rfl (pa_cons (pv 0) pa_nil)))
    (pss_cons (ps_expr (pe_use C_need_bells (hr.mono (by decide)) rfl (pa_cons (pv 1) pa_nil)))
    (pss_cons (ps_expr (pe_use C_need_naming (hr.mono (by decide)) rfl (pa_cons (pv 1) (pa_cons (pv 2) pa_nil))))
    (pss_one (ps_ret (pe_use C_tones_in (hr.mono (by decide)) rfl (pa_cons (pv 0) (pa_cons (pv 1) (pa_cons (pv 2) pa_nil))))))))), ?_⟩
    refine ⟨_, rfl, [], [v], rfl, rfl, by show 1 ≤ sizeLine; decide, fun p hp => ?_⟩
    have k1 := same_new hp (.tup [v])
    refine ⟨p, [v], [tD t], rfl, upd_same, .cons (dp_same k1 ht.dp) .nil, by show 1 ≤ 1000; decide, fun d hd => by rw [List.mem_singleton.mp hd]; exact s2, fun _ H2 k2 => ?_, fun k hk => by rw [no_one td] at hk; cases hk⟩
    have k12 := k1.trans k2
    refine ⟨_, rfl, b, l, rfl, k12 _ _ eb, s1, lo, fun H3 k3 => ?_⟩
    have k13 := k12.trans k3
    refine ⟨_, rfl, _, rfl, b, n, l, ns, rfl, k13 _ _ eb, k13 _ _ en, ll, ln, pos, fun H4 k4 => ?_⟩
    have k14 := k13.trans k4
    exact ⟨_, rfl, _, rfl, _, rfl, v, b, n, t, l, ns, rfl, ht.same k14, ok, sh, k14 _ _ eb, k14 _ _ en, ll, nd, fun p H5 k5 r => q p H5 (k14.trans k5) r⟩
/-! ### how_often -/
abbrev s_how_often : Stmt := top 36
theorem sc_how_often : FnScope ["tale", "names"] ["tale", "names"] (defScope s_how_often) := ⟨rfl, rfl, rfl, by decide +kernel, rfl, by decide +kernel, by decide +kernel⟩
def spOften (K : PySem.W.Frag) : Sp := fun vs H Q _ => ∃ (v : V) (b : Addr) (t : Tale) (l : Lot), vs = [v, .ref b] ∧ TalH H v t ∧ SqX K H b (l.map V.str) ∧ TlOk t ∧ ∀ H', Same H H' → Q (.int (hw t l : Nat)) H'
theorem ok_often {f : Addr} {fd : FuncData} (F : Fun K "how_often" "how_often" s_how_often f fd) (C_thin_tale : Cl P w K mg base "thin_tale" ["tale", "names"] [] 2 (spThinT K)) (n_len : mg "len" = none) : FnOk P w K mg base CX0 3 f fd ["tale", "names"] (spOften K) := by
  refine F.ok sc_how_often (fun vs H Q E h => ?_) (fun cdv A outer s H vs Q E hr h => ?_)
  · obtain ⟨_, _, _, _, rfl, _⟩ := h
    rfl
  · obtain ⟨v, b, t, l, rfl, ht, hb, ok, q⟩ := h
    refine ⟨_, (pss_one (ps_ret (pe_callB call_len_seq (by rfl) n_len PySem.boot_len (pa_cons (pe_use C_thin_tale (hr.mono (by decide)) rfl (pa_cons (pv 0) (pa_cons (pv 1) pa_nil))) pa_nil)))), ?_⟩
    refine ⟨_, rfl, _, rfl, v, b, t, l, rfl, ht, hb, ok, fun p H1 s1 hp => ?_⟩
    obtain ⟨_, its, e, ep, al⟩ := hp
    cases e
    refine ⟨p, _, rfl, .inr (SqT.of ep), ?_⟩
    rw [al.len]
    exact q _ s1
/-! ### tones_needed -/
abbrev s_tones_needed : Stmt := top 35
theorem sc_tones_needed : FnScope ["one", "other", "lot"] ["one", "other"] (defScope s_tones_needed) := ⟨rfl, rfl, rfl, by decide +kernel, rfl, by decide +kernel, by decide +kernel⟩
def spNeeded (K : PySem.W.Frag) (C : Addr) (T : List (Addr × Str)) : Sp := fun vs H Q E => ∃ (v u : V) (d e : PyData) (a b : Tale), vs = [v, u] ∧ Two K H v u d e a b ∧ Tabs T H ∧
  (firstNo [d, e] = none → ∀ r H', ExtN H H' → Tabs T H' → NdH H' (.ref r) (nd a b) → Q (.ref r) H') ∧ ∀ k, firstNo [d, e] = some k → ∀ dd H', Same H H' → H' dd = some (errH (k : Nat)) → E (.ref C) (some dd) H'
theorem ok_needed {f fn fp C : Addr} {T : List (Addr × Str)} {fd fdp : FuncData} {ds : List Value} (F : Fun K "tones_needed" "tones_needed" s_tones_needed f fd) (N : FnR P w K mg base (L2.CX P w) 4 fn (spNeedR K C)) (gN : mg "need_tales" = some (.ref fn)) (kN : PySem.W.keepIn K (.ref fn) = true) (C_bells_of : Cx_ P w K mg base "bells_of" ["tales"] 6 (spBells K C)) (C_ordered_lots : Cl P w K mg base "ordered_lots" ["names"] [] 3 (spOrd K)) (C_how_often : Cl P w K mg base "how_often" ["tale", "names"] [] 3 (spOften K))
    (G_PL : FnOk P w K mg base (L2.CX P w) 7 fp fdp ["one", "other", "surely"] (spPL K C T leastT)) (m_PL : mg "parting_lots" = some (.ref fp)) (k_PL : PySem.W.keepIn K (.ref fp) = true) (b_PL : Binds K fdp ["one", "other", "surely"] ds) (v_PL : Vals [V.bl false] ds) : FnOk P w K mg base (L2.CX P w) 8 f fd ["one", "other"] (spNeeded K C T) := by
  refine F.okX sc_tones_needed (fun vs H Q E h => ?_) (fun cdv A outer s H vs Q E hr h => ?_)
  · obtain ⟨_, _, _, _, _, _, rfl, _⟩ := h
    rfl
  · obtain ⟨v, u, d, e, a, b, rfl, tw, tabs, q, qe⟩ := h
    refine ⟨_, (pss_cons (ps_expr (pe_goR N gN kN (hr.mono (by decide)) (fun σ => passAt (takes_of rfl rfl rfl rfl) σ) rfl (pa_cons (pv 0) (pa_cons (pv 1) pa_nil))))
    (Evl.pss_cut (ps_if (pt_cmpR (op_eqD hr.units) (pv 0) (pv 1) (nomark _)) (pss_one (ps_ret (pe_tup (pa_cons pe_int (pa_cons pe_non pa_nil))))) pss_nil)
    (Evl.pss_cut (ps_for (passes_of rfl) rfl (pi_seq (pe_use C_ordered_lots (hr.mono (by decide)) rfl (pa_cons (pe_useX C_bells_of (hr.mono (by decide)) (fun σ => passAt (takes_of rfl rfl rfl rfl) σ) rfl (pa_cons (pe_tup (pa_cons (pv 0) (pa_cons (pv 1) pa_nil))) pa_nil)) pa_nil))) (pg_name (i := 2) sc_tones_needed.nd rfl (Or.inl rfl))
      (pss_one (ps_if (pt_cmpR op_ne (pe_use C_how_often (hr.mono (by decide)) rfl (pa_cons (pv 0) (pa_cons (pv 2) pa_nil))) (pe_use C_how_often (hr.mono (by decide)) rfl (pa_cons (pv 1) (pa_cons (pv 2) pa_nil))) (nomark _)) (pss_one (ps_ret (pe_tup (pa_cons pe_int (pa_cons (pv 2) pa_nil))))) pss_nil)))
    (pss_one (ps_ret (pe_tup (pa_cons pe_int (pa_cons (pe_ix (r := rIxT K) ix_tup (pe_callSD G_PL (hr.mono (by decide)) rfl m_PL k_PL b_PL v_PL (fun σ => passAt (takes_of rfl rfl rfl rfl) σ) (pa_cons (pv 0) (pa_cons (pv 1) pa_nil))) pe_int (fun _ _ => rfl)) pa_nil)))))))), ?_⟩
    refine ⟨_, rfl, _, rfl, rd_need tw (fun no H1 s1 => ?_) fun k hk dd H1 s1 ed => qe k hk dd H1 s1 ed⟩
    have q := q no
    obtain ⟨ha, hb, oa, ob⟩ := (tw.same s1).ok no
    have tw1 := tw.same s1
    have no2 : toldE (.tuple [d, e]) = none := by
      show (if seqD (.tuple [d, e]) = false then _ else (firstNo [d, e]).map _) = none
      rw [no]; rfl
    have fin : ∀ {r : Addr} {H' : Hp} {x : V}, Same H1 H' → H' r = some (.tup [.int ((nd a b).1 : Nat), x]) → OptL H' x (nd a b).2 → Q (.ref r) H' := fun s e o => q _ _ (ExtN.of (s1.trans s)) (tabs.ext fun b o e => (s1.trans s) b o e) ⟨_, _, rfl, e, o⟩
    refine ⟨fun σ H' => σ = [some v, some u, none] ∧ Same H1 H' ∧ a ≠ b, ?_, ?_⟩
    · refine ⟨_, rfl, _, rfl, rd_eqT ha hb oa.nm ob.nm ⟨_, rfl, iteD (fun c => ?_) fun c => ⟨rfl, Same.refl _, c⟩⟩⟩
      refine ⟨by show 2 ≤ sizeLine; decide, fun r hr => ?_⟩
      have en : nd a b = (0, none) := by unfold nd; rw [if_pos c]
      refine fin (x := .non) (same_new hr _) ?_ ?_
      · rw [en]; exact upd_same
      · rw [en]; exact rfl
    rintro σ H2 ⟨rfl, s2, ne⟩
    refine ⟨fun σ H' => (∃ o2, σ = [some v, some u, o2]) ∧ Same H2 H' ∧ ∀ l ∈ OL (namesT [a, b]), hwB a b l = false, ?_, ?_⟩
    · refine ⟨_, rfl, _, rfl, by show 2 ≤ sizeLine; decide, fun tp htp => ?_⟩
      have s3 := same_new htp (.tup [v, u])
      have etp : upd H2 tp (.tup [v, u]) tp = some (.tup [v, u]) := upd_same
      generalize upd H2 tp (.tup [v, u]) = H3 at s3 etp ⊢
      have s13 := s2.trans s3
      have tw3 := tw1.same s13
      refine ⟨.ref tp, .tuple [d, e], [a, b], rfl, .tup (SqT.of etp) (.cons tw3.dv (.cons tw3.du .nil)), ⟨by show 2 ≤ 1000; decide, tw.sm⟩, fun _ => ⟨tp, _, rfl, SqX.tup etp, .cons (ha.same s13) (.cons (hb.same s13) .nil)⟩, tw.ln, fun _ np H4 s4 e4 => ?_, fun k hk => by rw [no2] at hk; cases hk⟩
      refine ⟨np, lotS (namesT [a, b]), rfl, SqX.tup e4, tw.nm, fun op H5 s5 hop => ?_⟩
      have eOL : OL (lotS (namesT [a, b])) = OL (namesT [a, b]) := OL_congr fun x => mem_lotS
      rw [eOL] at hop
      obtain ⟨its, eo, al⟩ := hop
      have s25 := (s3.trans s4).trans s5
      refine ⟨op, its, rfl, SqX.lst eo, fun J S W z0 => ?_⟩
      refine for_sq W (fun i σ H' => (∃ o2, σ = [some v, some u, o2]) ∧ Same H5 H' ∧ ∀ l ∈ (OL (namesT [a, b])).take i, hwB a b l = false) ⟨⟨none, rfl⟩, Same.refl _, fun l hl => by cases hl⟩ (fun i σ H' pv => W.keep (fun o e => pv.2.1 _ _ e) z0) ?_ ?_
      · rintro i σ H6 x ex ⟨⟨o2, rfl⟩, s6, all⟩
        obtain ⟨l, el, lb, rfl, elb⟩ := al.get ex
        have s16 := (s2.trans s25).trans s6
        have elb6 := s6 _ _ elb
        refine ⟨_, rfl, _, rfl, v, lb, a, l, rfl, ha.same s16, SqX.tup elb6, oa, fun H7 s7 => ?_⟩
        refine ⟨_, rfl, _, rfl, u, lb, b, l, rfl, hb.same (s16.trans s7), SqX.tup (s7 _ _ elb6), ob, fun H8 s8 => ?_⟩
        have s68 := s7.trans s8
        have s18 := s16.trans s68
        have eh : (!decide (V.int (hw a l : Nat) = V.int (hw b l : Nat))) = hwB a b l := by
          unfold hwB
          congr 1
          exact decide_eq_decide.mpr ⟨fun z => by injection z with z; exact Int.ofNat_inj.mp z, fun z => by rw [z]⟩
        refine ⟨rfl, _, rfl, ?_⟩
        show ite ((!decide (V.int (hw a l : Nat) = V.int (hw b l : Nat))) = true) _ _
        rw [eh]
        cases c : hwB a b l with
        | true =>
          refine iteT ⟨_, rfl, by show 2 ≤ sizeLine; decide, fun r kr => ?_⟩
          have en : nd a b = (1, some l) := by unfold nd; rw [if_neg ne, find_at el all c]
          have k9 := same_new kr (.tup [V.int 1, V.ref lb])
          refine fin (x := .ref lb) (s18.trans k9) ?_ ?_
          · rw [en]; exact upd_same
          · rw [en]; exact ⟨lb, rfl, k9 _ _ (s68 _ _ elb6)⟩
        | false =>
          refine iteF ⟨⟨_, rfl⟩, s6.trans s68, fun m hm => ?_⟩
          rw [List.take_add_one, el] at hm
          rcases List.mem_append.mp hm with z | z
          · exact all m z
          · rw [List.mem_singleton.mp z]; exact c
      · rintro σ H6 ⟨st, s6, all⟩
        rw [al.len, List.take_length] at all
        exact ⟨st, s25.trans s6, all⟩
    rintro σ H3 ⟨⟨o2, rfl⟩, s3, all⟩
    have s13 := s2.trans s3
    have no1 : (OL (namesT [a, b])).find? (hwB a b) = none := List.find?_eq_none.mpr fun l hl => by rw [all l hl]; decide
    have en : nd a b = (2, (OL (namesT [a, b])).find? fun l => partB a b l false) := by unfold nd; rw [if_neg ne, no1]
    obtain ⟨l, el⟩ := part_some oa.good ob.good ne
    have hd : (leastT a b false).head? = some l := (keepF_first _).trans el
    refine ⟨_, rfl, _, rfl, v, u, false, d, e, a, b, rfl, tw1.same s13, tabs.ext (fun b o e => (s1.trans s13) b o e), fun _ r H4 x4 t4 hr => ?_, fun k hk => by rw [no] at hk; cases hk⟩
    obtain ⟨_, its, er, et, al⟩ := hr
    cases er
    cases hl : leastT a b false with
    | nil => rw [hl] at hd; cases hd
    | cons m ms =>
      rw [hl] at hd al
      cases hd
      cases al with
      | @cons y _ ys _ hy hys =>
      refine ⟨r, _, 0, y, rfl, rfl, SqT.of et, at0, by show 2 ≤ sizeLine; decide, fun r2 k2 => ?_⟩
      have k5 := same_new k2 (.tup [V.int 2, y])
      refine q r2 _ (fun b o e n => k5 _ _ (x4 _ _ ((s1.trans s13) _ _ e) n)) (t4.ext fun b o e => k5 b o e) ⟨r2, y, rfl, ?_, ?_⟩
      · rw [en]; exact upd_same
      · rw [en, el]; exact hy.same k5
end
end K6

/-! d.setdefault(t, x), d a dict by tuples -/
namespace L2
open PySem PySem.Spec PyProof.Rows
section
variable {X : Cx} {pins : List (Addr × Obj)} {σ : St} {H : Hp} {s : Shared} {a b : Addr} {r : Value} {d : V} {k : List Key} {A : Around} {E : Value → Shared → Prop}
theorem d_setdT {kvs : List (List Key × V)} {Q : Value → Shared → Prop} (hu : A.units + 1 < cLine) (I : Inv X pins σ H s) (e : H a = some (.dT kvs)) (eb : H b = some (.tup (k.map kV))) (rd : RelV d r) (hl : kvs.length < sizeLine)
    (h1 : ∀ v, valV kvs k = some v → ∀ (w' : Value) (s' : Shared), Inv X pins σ H s' → RelV v w' → Q w' s') (h2 : valV kvs k = none → ∀ (w' : Value) (s' : Shared), Inv X pins σ (upd H a (.dT (putK kvs k d))) s' → RelV d w' → Q w' s') :
    wpAny (model X.prog X.w) A (call (.builtin "dict.setdefault") [.ref a, .ref b, r]) Q E s := by
  obtain ⟨z, hd, xs, rel, dd⟩ := dt_of I.hok e
  have hz : xs.length ≤ sizeLine := by rw [← Paired.length rel]; exact z
  refine call_setdefault_heap (hsz := hz) (tupleKind_room_in1 hu) (key_of I.hok eb) hd dd (fun p hp => ?_) (fun hn h' dd' hs => ?_)
  · have q := rel.val k
    rw [hp] at q
    cases q0 : valV kvs k with
    | none => rw [q0] at q; exact (show False from q).elim
    | some v0 =>
      rw [q0] at q
      exact h1 v0 q0 _ _ (I.tok _) q
  · have q := rel.val k
    rw [hn] at q
    cases q0 : valV kvs k with
    | some v0 => rw [q0] at q; exact (show False from q).elim
    | none =>
      have hl2 : (putK kvs k d).length ≤ sizeLine := by
        have := length_putK kvs k d
        omega
      obtain ⟨o, es, ep, hq, g2, g3, g4, _, g5⟩ := dd'
      refine h2 q0 _ _ (d_write (t' := s.toks + _) I (by rw [e]; exact True.intro) hs ⟨o, hq⟩ ⟨hl2, hd, _, (rel.put k eb rd).keeps fun c ys ec => ?_, o, es, ep, hq, g2, g3, g4, g5⟩) rd
      rw [upd_ne (ne_of ec e (fun z => nomatch z))]
      exact ec
end
def tDSetdT (td ty tx : TE) : TE := fun σ H Q => td σ H fun x H1 => ∃ a, x = .ref a ∧ IsD H1 a ∧ ty σ H1 fun y H2 => tx σ H2 fun z H3 => ∃ (kvs : List (List Key × V)) (k : List Key) (b : Addr), H3 a = some (.dT kvs) ∧ y = .ref b ∧ H3 b = some (.tup (k.map kV)) ∧ kvs.length < sizeLine ∧
  (∀ v, valV kvs k = some v → Q v H3) ∧ (valV kvs k = none → Q z (upd H3 a (.dT (putK kvs k z))))
section
variable {X : Cx} {o e f : Expr} {td ty tx : TE} {apos cpos : Pos}
theorem pe_dsetdT (hu : X.A.units + 1 < cLine) (ho : PE X o td) (he : PE X e ty) (hf : PE X f tx) (m : M2 X o "setdefault" apos e f cpos) : PE X (.Call (.Attribute o "setdefault" apos) [e, f] [] cpos) (tDSetdT td ty tx) := by
  refine ⟨fun pins s σ H Q I h => ?_⟩
  refine wpAny_Call_method m.base m.few m.line PySem.F.plainAttrs_dict PySem.F.slot_dict_setdefault PySem.F.type_dict_setdefault (thn (ho.run pins s σ H _ I h) fun u s1 ⟨x, H1, I1, rx, a, ex, d, q1⟩ => ?_)
  subst ex
  obtain rfl : u = Value.ref a := rx
  obtain ⟨t1, t2, _⟩ := isD_at I1 d
  refine ⟨t1, t2, ?_⟩
  rw [m.trees]
  refine Calls.callWith_builtin rfl (Calls.evalArgs_plain (Calls.spliced_cons (thn (he.run pins s1 σ H1 _ I1 q1) fun iv s2 ⟨y, H2, I2, ry, q2⟩ => Calls.spliced_cons (thn (hf.run pins s2 σ H2 _ I2 q2) fun jv s3 ⟨z, H3, I3, rz, kvs, k, b, e1, e2, e3, hl, q3, q4⟩ => Calls.spliced_nil ?_))))
  subst e2
  obtain rfl : iv = Value.ref b := ry
  exact d_setdT hu I3 e1 e3 rz hl (fun v hv w' s' I' r' => ⟨_, _, I', r', q3 v hv⟩) fun hn w' s' I' r' => ⟨_, _, I', r', q4 hn⟩
end
end L2

namespace K6
open PySem PySem.Spec PyProof.Rows L2 Hb St Sq Ow En Zp RZ Rd Xb Da Lo Cq LamX Lc Lp
/-! ### a dict of lists of numbers, by lots -/
def ky (l : Lot) : List Key := l.map Sum.inr
theorem ky_inj {l m : Lot} (h : ky l = ky m) : l = m := map_inj_on (f := (Sum.inr : Str → Key)) (fun x _ y _ e => by injection e) h
theorem ky_kV (l : Lot) : (ky l).map kV = l.map V.str := by unfold ky; rw [List.map_map]; rfl
structure Nums (H0 H : Hp) (d : Addr) (kvs : List (List Key × V)) (g : Lot → List Nat) : Prop where
  sm : Same H0 H
  ed : H d = some (.dT kvs)
  d0 : H0 d = none
  val : ∀ l, (valV kvs (ky l) = none ∧ g l = []) ∨ ∃ r, valV kvs (ky l) = some (.ref r) ∧ H r = some (.lst ((g l).map natV)) ∧ H0 r = none
  inj : ∀ l m r, valV kvs (ky l) = some (.ref r) → valV kvs (ky m) = some (.ref r) → l = m
theorem Nums.same {H0 H H' : Hp} {d : Addr} {kvs : List (List Key × V)} {g : Lot → List Nat} (n : Nums H0 H d kvs g) (s : Same H H') : Nums H0 H' d kvs g :=
  ⟨n.sm.trans s, s _ _ n.ed, n.d0, fun l => (n.val l).imp id fun ⟨r, a, b, c⟩ => ⟨r, a, s _ _ b, c⟩, n.inj⟩
/-- one list is changed -/
theorem Nums.put {H0 H : Hp} {d r : Addr} {kvs : List (List Key × V)} {g : Lot → List Nat} {l : Lot} {q : List Nat} (n : Nums H0 H d kvs g) (e : valV kvs (ky l) = some (.ref r)) : Nums H0 (upd H r (.lst (q.map natV))) d kvs (fun m => if m = l then q else g m) := by
  obtain ⟨e0, _⟩ | ⟨r', e1, e2, e3⟩ := n.val l
  · rw [e] at e0; cases e0
  · rw [e] at e1
    cases e1
    refine ⟨fun b o h => ?_, ?_, n.d0, fun m => ?_, n.inj⟩
    · rw [upd_ne (ne_of_none h e3)]; exact n.sm _ _ h
    · rw [upd_ne fun z : d = r => by
        have h := n.ed
        rw [z, e2] at h
        cases h]
      exact n.ed
    · by_cases c : m = l
      · subst c
        rw [if_pos rfl]
        exact .inr ⟨r, e, upd_same, e3⟩
      · rw [if_neg c]
        refine (n.val m).imp id fun ⟨s, a, b, k⟩ => ⟨s, a, ?_, k⟩
        rw [upd_ne fun z : s = r => c (n.inj m l r (by rw [← z]; exact a) e)]
        exact b
/-- a new list -/
theorem Nums.new {H0 H : Hp} {d p : Addr} {kvs : List (List Key × V)} {g : Lot → List Nat} {l : Lot} (n : Nums H0 H d kvs g) (e : valV kvs (ky l) = none) (ep : H p = some (.lst [])) (p0 : H0 p = none) (fr : ∀ m r, valV kvs (ky m) = some (.ref r) → r ≠ p) : Nums H0 (upd H d (.dT (putK kvs (ky l) (.ref p)))) d (putK kvs (ky l) (.ref p)) g := by
  have gl : g l = [] := by
    obtain ⟨_, h⟩ | ⟨r, h, _⟩ := n.val l
    · exact h
    · rw [e] at h; cases h
  have ne : ∀ {x : Addr} {xs : List V}, H x = some (.lst xs) → x ≠ d := fun h z => by rw [z, n.ed] at h; cases h
  refine ⟨fun b o h => ?_, upd_same, n.d0, fun m => ?_, fun a b r h1 h2 => ?_⟩
  · rw [upd_ne (ne_of_none h n.d0)]; exact n.sm _ _ h
  · rw [valV_put]
    by_cases c : m = l
    · subst c
      rw [if_pos rfl, gl]
      exact .inr ⟨p, rfl, by rw [upd_ne (ne ep)]; exact ep, p0⟩
    · rw [if_neg fun z => c (ky_inj z)]
      exact (n.val m).imp id fun ⟨s, a, b, k⟩ => ⟨s, a, by rw [upd_ne (ne b)]; exact b, k⟩
  · rw [valV_put] at h1 h2
    by_cases c1 : ky a = ky l <;> by_cases c2 : ky b = ky l
    · exact ky_inj (c1.trans c2.symm)
    · rw [if_pos c1] at h1
      rw [if_neg c2] at h2
      cases h1
      exact absurd rfl (fr b _ h2)
    · rw [if_neg c1] at h1
      rw [if_pos c2] at h2
      cases h2
      exact absurd rfl (fr a _ h1)
    · rw [if_neg c1] at h1
      rw [if_neg c2] at h2
      exact n.inj a b r h1 h2
theorem Nums.at {H0 H : Hp} {d : Addr} {kvs : List (List Key × V)} {g : Lot → List Nat} (n : Nums H0 H d kvs g) {l : Lot} {v : V} (h : valV kvs (ky l) = some v) : ∃ r, v = .ref r ∧ H r = some (.lst ((g l).map natV)) ∧ H0 r = none := by
  obtain ⟨e, _⟩ | ⟨r, e, h2, h3⟩ := n.val l
  · rw [h] at e; cases e
  · rw [h] at e; cases e; exact ⟨r, rfl, h2, h3⟩
theorem Nums.off {H0 H : Hp} {d M : Addr} {o : HO} {kvs : List (List Key × V)} {g : Lot → List Nat} (n : Nums H0 H d kvs g) (M0 : H0 M = none) (fr : ∀ l r, valV kvs (ky l) = some (.ref r) → r ≠ M) (nd : M ≠ d) : Nums H0 (upd H M o) d kvs g :=
  ⟨fun b u h => by rw [upd_ne (ne_of_none h M0)]; exact n.sm _ _ h, by rw [upd_ne nd.symm]; exact n.ed, n.d0, fun l => (n.val l).imp id fun ⟨r, a, b, c⟩ => ⟨r, a, by rw [upd_ne (fr l r a)]; exact b, c⟩, n.inj⟩
theorem spots_snoc (b : Tale) (i : Nat) (l m : Lot) (e : b[i]? = some l) : (((List.range (i + 1)).filter fun j => decide (b[j]? = some m)) : List Nat) = if m = l then ((List.range i).filter fun j => decide (b[j]? = some l)) ++ [i] else (List.range i).filter fun j => decide (b[j]? = some m) := by
  rw [List.range_succ, List.filter_append]
  by_cases c : m = l
  · subst c
    rw [if_pos rfl, List.filter_cons_of_pos (by simp [e])]; rfl
  · rw [if_neg c, List.filter_cons_of_neg (by simp [e]; exact fun z => c z.symm)]
    simp
theorem spots_all (b : Tale) (m : Lot) : ((List.range b.length).filter fun j => decide (b[j]? = some m)) = spots b [] m := by
  unfold spots
  exact List.filter_congr fun i _ => by simp
/-- a tuple of numbers, or None -/
def OptN (H : Hp) (v : V) : Option (List Nat) → Prop
  | none => v = .non
  | some f => ∃ r, v = .ref r ∧ H r = some (.tup (f.map natV))
section
variable {P : Program} {w : World} {K : PySem.W.Frag} {mg : Str → Option Value} {base : Heap}
abbrev s_lots_matched : Stmt := top 37
theorem sc_lots_matched : FnScope ["one", "other", "numbers", "number", "lot", "matched"] ["one", "other"] (defScope s_lots_matched) := ⟨rfl, rfl, rfl, by decide +kernel, rfl, by decide +kernel, by decide +kernel⟩
def spMat (K : PySem.W.Frag) (C : Addr) : Sp := fun vs H Q E => ∃ (v u : V) (d e : PyData) (a b : Tale), vs = [v, u] ∧ Two K H v u d e a b ∧
  (firstNo [d, e] = none → ∀ x H', Same H H' → OptN H' x (matF a b) → Q x H') ∧ ∀ k, firstNo [d, e] = some k → ∀ dd H', Same H H' → H' dd = some (errH (k : Nat)) → E (.ref C) (some dd) H'
theorem ok_mat {f fn C : Addr} {fd : FuncData} (F : Fun K "lots_matched" "lots_matched" s_lots_matched f fd) (N : FnR P w K mg base (L2.CX P w) 4 fn (spNeedR K C)) (gN : mg "need_tales" = some (.ref fn)) (kN : PySem.W.keepIn K (.ref fn) = true) (n_enumerate : mg "enumerate" = none) (n_len : mg "len" = none) (n_tuple : mg "tuple" = none) : FnOk P w K mg base (L2.CX P w) 5 f fd ["one", "other"] (spMat K C) := by
  refine F.okX sc_lots_matched (fun vs H Q E h => ?_) (fun cdv A outer s H vs Q E hr h => ?_)
  · obtain ⟨_, _, _, _, _, _, rfl, _⟩ := h
    rfl
  · obtain ⟨v, u, d, e, a, b, rfl, tw, q, qe⟩ := h
    refine ⟨_, (pss_cons (ps_expr (pe_goR N gN kN (hr.mono (by decide)) (fun σ => passAt (takes_of rfl rfl rfl rfl) σ) rfl (pa_cons (pv 0) (pa_cons (pv 1) pa_nil))))
    (pss_cons (ps_set (i := 2) sc_lots_matched.nd rfl (Or.inl rfl) (pe_dnewT))
    (Evl.pss_cut (ps_for (passes_of rfl) rfl (pi_enumT (by rfl) n_enumerate (pa_cons (pv 1) pa_nil)) (pg_tup rfl (pgs_cons (pg_name (i := 3) sc_lots_matched.nd rfl (Or.inl rfl)) (pgs_cons (pg_name (i := 4) sc_lots_matched.nd rfl (Or.inl rfl)) pgs_nil)))
      (pss_one (ps_expr (pe_bm PySem.F.plainAttrs_list PySem.F.slot_list_append PySem.F.type_list_append mt_append (pe_dsetdT (hu_of hr) (pv 2) (pv 4) (pe_lst pa_nil) ⟨rfl, rfl, rfl, rfl⟩) (pa_cons (pv 3) pa_nil)))))
    (pss_cons (ps_set (i := 5) sc_lots_matched.nd rfl (Or.inl rfl) (pe_lst pa_nil))
    (Evl.pss_cut (ps_for (passes_of rfl) rfl (pi_seq (pv 0)) (pg_name (i := 4) sc_lots_matched.nd rfl (Or.inl rfl))
      (Evl.pss_cut (ps_if (pt_not (pt_truthK K rfl (pe_dget2 (hu_of hr) (pv 2) (pv 4) (pe_lst pa_nil) ⟨rfl, rfl, rfl, rfl⟩) (fun _ => rfl))) (pss_one (ps_ret pe_non)) pss_nil)
    (pss_one (ps_expr (pe_bm PySem.F.plainAttrs_list PySem.F.slot_list_append PySem.F.type_list_append mt_append (pv 5) (pa_cons (pe_bm PySem.F.plainAttrs_list PySem.F.slot_list_pop PySem.F.type_list_pop mt_popAt (pe_dget (hu_of hr) (pv 2) (pv 4) (fun _ _ => rfl)) (pa_cons pe_int pa_nil)) pa_nil))))))
    (pss_one (ps_ret (pe_ifExp (pt_cmpR op_eq (pe_callB call_len_seq (by rfl) n_len PySem.boot_len (pa_cons (pv 5) pa_nil)) (pe_callB call_len_seq (by rfl) n_len PySem.boot_len (pa_cons (pv 1) pa_nil)) (nomark _)) (pe_callTy call_tuple_of (by rfl) n_tuple (by decide +kernel) (pa_cons (pv 5) pa_nil)) pe_non)))))))), ?_⟩
    refine ⟨_, rfl, _, rfl, rd_need tw (fun no H1 s1 => ?_) fun k hk dd H1 s1 ed => qe k hk dd H1 s1 ed⟩
    have q := fun x H' s => q no x H' (s1.trans s)
    obtain ⟨ha, hb, oa, ob⟩ := (tw.same s1).ok no
    obtain ⟨ap, its, rfl, ea, al⟩ := ha
    obtain ⟨bp, jts, rfl, eb, bl⟩ := hb
    refine fun dd kd => ?_
    have n0 : Nums H1 (upd H1 dd (.dT [])) dd [] (fun _ => []) := ⟨same_new kd _, upd_same, kd, fun l => .inl ⟨rfl, rfl⟩, fun l m r h => by cases h⟩
    generalize upd H1 dd (.dT []) = H2 at n0 ⊢
    have lb := ob.len
    have la := oa.len
    have rg : ∀ i m, ((List.range i).filter fun j => decide (b[j]? = some m)).length ≤ i := fun i m => by
      have := List.length_filter_le (fun j => decide (b[j]? = some m)) (List.range i)
      rwa [List.length_range] at this
    refine ⟨fun σ H' => (∃ o3 o4, σ = [some (.ref ap), some (.ref bp), some (.ref dd), o3, o4, none]) ∧ ∃ kvs, Nums H1 H' dd kvs (spots b []) ∧ kvs.length ≤ 100, ?_, ?_⟩
    · refine ⟨_, rfl, bp, rfl, ⟨jts, SqT.of (n0.sm _ _ eb)⟩, ?_⟩
      refine for_en en_tup (fun i σ H' => (∃ o3 o4, σ = [some (.ref ap), some (.ref bp), some (.ref dd), o3, o4, none]) ∧ ∃ kvs, Nums H1 H' dd kvs (fun m => (List.range i).filter fun j => decide (b[j]? = some m)) ∧ kvs.length ≤ i) ⟨⟨none, none, rfl⟩, [], n0, Nat.le_refl _⟩ (fun i σ H' ⟨_, kvs, n, _⟩ => SqT.of (n.sm _ _ eb)) ?_ ?_
      · rintro i σ H3 x t ex ⟨⟨o3, o4, rfl⟩, kvs, n, kl⟩ ht
        obtain ⟨l, el, lp, rfl, elp⟩ := bl.get ex
        have hi : i < b.length := (List.getElem?_eq_some_iff.mp el).1
        have s2 := same_new ht (.tup [.int (i : Nat), .ref lp])
        refine ⟨t, _, rfl, SqT.of upd_same, rfl, _, _, rfl, _, _, rfl, rfl, ?_⟩
        have n := n.same s2
        generalize upd H3 t (.tup [.int (i : Nat), .ref lp]) = H4 at n ⊢
        have elp4 := n.sm _ _ elp
        have eg : (fun m => if m = l then ((List.range i).filter fun j => decide (b[j]? = some l)) ++ [i] else (List.range i).filter fun j => decide (b[j]? = some m)) = fun m => (List.range (i + 1)).filter fun j => decide (b[j]? = some m) := funext fun m => (spots_snoc b i l m el).symm
        refine ⟨_, rfl, dd, rfl, .inr ⟨_, .inl n.ed⟩, _, rfl, by show 0 ≤ sizeLine; decide, fun p kp => ?_⟩
        have n5 := n.same (same_new kp (.lst []))
        have ep : upd H4 p (.lst []) p = some (.lst []) := upd_same
        have p0 : H1 p = none := by
          cases h : H1 p with
          | none => rfl
          | some o => rw [n.sm _ _ h] at kp; cases kp
        have fr : ∀ m r, valV kvs (ky m) = some (.ref r) → r ≠ p := fun m r h z => by
          obtain ⟨r', e, h2, _⟩ := n.at h
          cases e
          rw [z, kp] at h2
          cases h2
        generalize upd H4 p (.lst []) = H5 at n5 ep ⊢
        have ln := rg i l
        have app : ∀ {H6 : Hp} {kvs' : List (List Key × V)} {r : Addr}, Nums H1 H6 dd kvs' (fun m => (List.range i).filter fun j => decide (b[j]? = some m)) → valV kvs' (ky l) = some (.ref r) → kvs'.length ≤ i + 1 →
            (∃ o3 o4, [some (.ref ap), some (.ref bp), some (.ref dd), some (V.int (i : Nat)), some (.ref lp), none] = [some (.ref ap), some (.ref bp), some (.ref dd), o3, o4, none]) ∧ ∃ kvs, Nums H1 (upd H6 r (.lst ((((List.range i).filter fun j => decide (b[j]? = some l)) ++ [i]).map natV))) dd kvs (fun m => (List.range (i + 1)).filter fun j => decide (b[j]? = some m)) ∧ kvs.length ≤ i + 1 := fun n e k => by
          have n' := n.put (q := ((List.range i).filter fun j => decide (b[j]? = some l)) ++ [i]) e
          rw [eg] at n'
          exact ⟨⟨_, _, rfl⟩, _, n', k⟩
        refine ⟨kvs, ky l, lp, n5.ed, rfl, by rw [ky_kV]; exact n5.sm _ _ elp, by rw [sizeLine_eq]; omega, fun v hv => ?_, fun hv => ?_⟩
        · obtain ⟨r, rfl, er, _⟩ := n5.at hv
          refine ⟨.inl ⟨rfl, _, SqL.of er⟩, _, rfl, r, _, _, rfl, rfl, er, by rw [List.length_map, sizeLine_eq]; omega, ?_⟩
          have := app n5 hv (by omega)
          rw [List.map_append] at this
          exact this
        · have n6 := n5.new hv ep p0 fr
          have hv6 : valV (putK kvs (ky l) (.ref p)) (ky l) = some (.ref p) := by rw [valV_put, if_pos rfl]
          obtain ⟨r, e, er, _⟩ := n6.at hv6
          cases e
          refine ⟨.inl ⟨rfl, _, SqL.of er⟩, _, rfl, p, _, _, rfl, rfl, er, by rw [List.length_map, sizeLine_eq]; omega, ?_⟩
          have := app n6 hv6 (by have := length_putK kvs (ky l) (.ref p); omega)
          rw [List.map_append] at this
          exact this
      · rintro σ H3 ⟨st, kvs, n, kl⟩
        rw [bl.len] at n kl
        exact ⟨st, kvs, (funext (spots_all b)) ▸ n, by omega⟩
    rintro σ H3 ⟨⟨o3, o4, rfl⟩, kvs, n, kl⟩
    refine ⟨by show 0 ≤ sizeLine; decide, fun M kM => ?_⟩
    have n4 := n.same (same_new kM (.lst []))
    have eM : upd H3 M (.lst []) M = some (.lst []) := upd_same
    have M0 : H1 M = none := by
      cases h : H1 M with
      | none => rfl
      | some o => rw [n.sm _ _ h] at kM; cases kM
    have fr : ∀ m r, valV kvs (ky m) = some (.ref r) → r ≠ M := fun m r h z => by
      obtain ⟨r', e, h2, _⟩ := n.at h
      cases e
      rw [z, kM] at h2
      cases h2
    generalize upd H3 M (.lst []) = H4 at n4 eM ⊢
    let S : L2.St → Prop := fun σ => ∃ o3 o4, σ = [some (.ref ap), some (.ref bp), some (.ref dd), o3, o4, some (.ref M)]
    let Inv : Hp → Nat → Prop := fun H' i => ∃ f, Nums H1 H' dd kvs (spots b f) ∧ H' M = some (.lst (f.map natV)) ∧ matL b (a.drop i) f = matL b a [] ∧ f.length = i
    refine ⟨fun σ H' => S σ ∧ Inv H' a.length, ?_, ?_⟩
    · refine ⟨_, rfl, ap, its, rfl, SqX.tup (n4.sm _ _ ea), fun J S2 W z0 => ?_⟩
      refine for_sq W (fun i σ H' => S σ ∧ Inv H' i) ⟨⟨_, _, rfl⟩, [], n4, eM, rfl, rfl⟩ (fun i σ H' ⟨_, f, n, _⟩ => W.keep (fun o e => by
        have := n4.sm _ _ ea
        rw [this] at e
        cases e
        exact n.sm _ _ ea) z0) ?_ ?_
      · rintro i σ H5 x ex ⟨⟨o3, o4, rfl⟩, f, n, eM5, ma, fl⟩
        obtain ⟨l, el, lp, rfl, elp⟩ := al.get ex
        obtain ⟨hi, gi⟩ := List.getElem?_eq_some_iff.mp el
        rw [List.drop_eq_getElem_cons hi, gi] at ma
        have elp5 := n.sm _ _ elp
        refine ⟨fun σ H' => σ = [some (.ref ap), some (.ref bp), some (.ref dd), o3, some (.ref lp), some (.ref M)] ∧ Same H5 H' ∧ spots b f l ≠ [], ?_, ?_⟩
        · refine ⟨_, rfl, dd, rfl, .inr ⟨_, .inl n.ed⟩, _, rfl, by show 0 ≤ sizeLine; decide, fun p kp => ?_⟩
          have s6 := same_new kp (.lst [])
          have ep : upd H5 p (.lst []) p = some (.lst []) := upd_same
          generalize upd H5 p (.lst []) = H6 at s6 ep ⊢
          have n6 := n.same s6
          have none_ : spots b f l = [] → Q .non H6 := fun z => by
            refine q _ _ n6.sm ?_
            have : matF a b = none := by
              unfold matF
              rw [← ma]
              unfold matL
              rw [z]
            rw [this]
            exact rfl
          refine ⟨_, DGet.t (k := ky l) n6.ed (by rw [ky_kV]; exact n6.sm _ _ elp), ?_⟩
          obtain ⟨e, z⟩ | ⟨r, e, er, _⟩ := n6.val l
          · rw [e]
            exact ⟨false, .inl ⟨_, SqL.of ep, rfl⟩, iteT (none_ z)⟩
          · rw [e]
            cases c : spots b f l with
            | nil =>
              rw [c] at er
              exact ⟨false, .inl ⟨_, SqL.of er, rfl⟩, iteT (none_ c)⟩
            | cons s q =>
              rw [c] at er
              exact ⟨true, .inl ⟨_, SqL.of er, rfl⟩, iteF ⟨rfl, s6, fun z => by cases z⟩⟩
        rintro σ H6 ⟨rfl, s6, ne⟩
        have n6 := n.same s6
        have eM6 := s6 _ _ eM5
        obtain ⟨s, q', es⟩ := List.exists_cons_of_ne_nil ne
        obtain ⟨e, z⟩ | ⟨r, e, er, r0⟩ := n6.val l
        · exact absurd z ne
        rw [es] at er
        have n7 := n6.put (q := q') e
        have eM7 : upd H6 r (.lst (q'.map natV)) M = some (.lst (f.map natV)) := by rw [upd_ne (fr l r e).symm]; exact eM6
        refine ⟨_, rfl, .inl ⟨rfl, _, SqL.of eM6⟩, _, rfl, _, rfl, dd, .ref r, rfl, by rw [← e]; exact DGet.t (k := ky l) n6.ed (by rw [ky_kV]; exact n6.sm _ _ elp), .inl ⟨rfl, _, SqL.of er⟩, r, _, 0, 0, natV s, rfl, rfl, er, by decide, by decide, ?_, rfl, ?_⟩
        · rw [List.length_map, List.length_cons]
          exact if_pos (by rw [Bool.and_eq_true]; exact ⟨rfl, decide_eq_true (show (0 : Int) < ((q'.length + 1 : Nat) : Int) by omega)⟩)
        refine ⟨M, _, _, rfl, rfl, eM7, by rw [List.length_map, sizeLine_eq]; omega, ⟨_, _, rfl⟩, f ++ [s], ?_, ?_, ?_, by rw [List.length_append, fl]; rfl⟩
        · rw [show spots b (f ++ [s]) = fun m => if m = l then q' else spots b f m from funext (spots_next es)]
          exact n7.off M0 fr fun z => by
            have := n6.ed
            rw [← z, eM6] at this
            cases this
        · rw [upd_same, List.map_append]; rfl
        · rw [← ma]
          conv => rhs; unfold matL
          rw [es]
      · rintro σ H5 ⟨st, iv⟩
        rw [al.len] at iv
        exact ⟨st, iv⟩
    rintro σ H5 ⟨⟨o3, o4, rfl⟩, f, n5, eM5, ma, fl⟩
    rw [List.drop_length] at ma
    have em : matF a b = if f.length = b.length then some f else none := by unfold matF; rw [← ma]; rfl
    refine ⟨_, rfl, M, _, rfl, .inl (SqL.of eM5), _, rfl, bp, _, rfl, .inr (SqT.of (n5.sm _ _ eb)), rfl, _, rfl, ?_⟩
    rw [List.length_map, bl.len]
    by_cases c : f.length = b.length
    · rw [decide_eq_true (by rw [c])]
      refine iteT ⟨_, rfl, M, _, rfl, .inl ⟨SqL.of eM5, fun p kp => ?_⟩⟩
      have s6 := same_new kp (.tup (f.map natV))
      refine q _ _ (n5.sm.trans s6) ?_
      rw [em, if_pos c]
      exact ⟨p, rfl, upd_same⟩
    · rw [decide_eq_false fun z => c (by injection z with z; exact Int.ofNat_inj.mp z)]
      refine iteF (q _ _ n5.sm ?_)
      rw [em, if_neg c]
      exact rfl
end
end K6

namespace K6
open PySem PySem.Spec PyProof.Rows L2 Hb St Sq Ow En Zp RZ Rd Xb Da Lo Cq LamX Lc Lp Lg Sk
abbrev s__law_sorted_lots : Stmt := top 45
theorem sc__law_sorted_lots : FnScope ["tales", "names", "found", "tale", "lot", "name"] ["tales"] (defScope s__law_sorted_lots) := ⟨rfl, rfl, rfl, by decide +kernel, rfl, by decide +kernel, by decide +kernel⟩
/-- the reading of sorted(set(x)) of texts -/
theorem rd_srtS {K : PySem.W.Frag} {P : Program} {w : World} {H : Hp} {a : Addr} {ns : List Str} {Q : VK} (h : SqX K H a (ns.map V.str)) (hl : ns.length ≤ 1000) (q : ∀ p H', Same H H' → H' p = some (.lst ((lotS ns).map V.str)) → Q (.ref p) H') : rSet K P w [.ref a] H fun u H1 => rSorted2 P w [u] H1 Q := by
  unfold rSet rSorted2
  refine .inl ⟨a, ns, rfl, h, hl, fun b m hb nd ml mm => .inl ⟨b, m, rfl, upd_same, Nat.le_trans ml hl, fun ys p pm so hp => ?_⟩⟩
  obtain rfl : ys = lotS ns := lotS_eq (sorted_asc so (pm.nodup_iff.mpr nd)) fun x => pm.mem_iff.trans (mm x)
  exact q p _ ((same_new hb _).trans (same_new hp _)) upd_same
theorem sort_allK {P : Program} {w : World} {mg : Str → Option Value} {base : Heap} {lv : Nat} {spf : Sp} {γ : Type} {enc : γ → PyData} {R : V → γ → Prop} {K : PySem.W.Frag} {H : Hp} {a f : Addr} {its : List V} {gs : List γ} {Q : VK} (e : H a = some (.lst its)) (al : All2 R its gs) (cv : CallV P w K mg base lv spf H f) (dep : ∀ g ∈ gs, (enc g).depth ≤ 20)
    (alk : ∀ x y, PySem.W.alike (enc x) (enc y) = true) (hk : PySem.W.Sortable (gs.map enc) ∨ PySem.W.Tup0 (gs.map enc)) (turn : ∀ v g, R v g → ∀ H', Same H H' → spf [v] H' (fun k H'' => Same H' H'' ∧ Dp K H'' k (enc g)) fun _ _ _ => False)
    (q : ∀ p its' H', Same H H' → H' p = some (.lst its') → All2 R its' (gs.mergeSort (PySem.W.dataLe false enc)) → Q (.ref p) H') : rSortK P w K mg base lv spf [.ref a] [.ref f] H Q := by
  let g : V × γ → V × PyData := fun z => (z.1, enc z.2)
  have e1 : ((its.zip gs).map g).map (·.1) = its := by rw [List.map_map]; exact zip_fst al
  have e2 : ((its.zip gs).map g).map (·.2) = gs.map enc := by
    rw [List.map_map]
    conv => rhs; rw [← zip_snd al]
    rw [List.map_map]; rfl
  refine ⟨a, f, (its.zip gs).map g, rfl, rfl, SqL.of (by rw [e1]; exact e), cv, ?_, by rw [e2]; exact hk, fun b hb => ?_, fun b hb H' s => ?_, fun p H' s e' => ?_⟩
  · rw [e2]
    intro d hd d' hd'
    obtain ⟨x, _, rfl⟩ := List.mem_map.mp hd
    obtain ⟨y, _, rfl⟩ := List.mem_map.mp hd'
    exact alk x y
  · obtain ⟨z, hz, rfl⟩ := List.mem_map.mp hb
    exact dep _ (zip_mem al z hz).2
  · obtain ⟨z, hz, rfl⟩ := List.mem_map.mp hb
    exact turn _ _ (zip_mem al z hz).1 H' s
  · exact q p _ H' s e' (srt_pairs al)
def lamKey : Stmt → Expr
  | .Return (some (.Call _ _ [k] _)) _ => k.value
  | _ => .Constant .none 0 ⟨0, 0, 0, 0⟩
abbrev lamSL : Expr := lamKey ((defBody s__law_sorted_lots).getD 3 (.Pass ⟨0, 0, 0, 0⟩))
abbrev qSL : Str := (envOfC "_law_sorted_lots" (defScope s__law_sorted_lots) 0 0 .none).qual ++ "<lambda>"
theorem noSL : ∀ y ∈ (lSc lamSL).names, y.2 ≠ .free := by decide +kernel
theorem clSL (cells : List (Str × Addr)) : cloFrom cells (lSc lamSL).names [] = [] := rfl
theorem celsSL {b : Heap} : Cels b (lSc lamSL) [] [] [] := ⟨rfl, fun x y c h => (nomatch h), fun x c h => (nomatch h), fun x h => absurd rfl (noSL _ (PySem.mem_of_lookup h)), fun i x v h => (nomatch (show none = some x from h))⟩
def spKey (K : PySem.W.Frag) (cvs : List V) : Sp := fun vs H Q _ => ∃ (lv : V) (l : Lot), vs = [lv] ∧ LotH H lv l ∧ ∀ p H', Same H H' → KeyH H' (.ref p) l → Q (.ref p) H'
section
variable {P : Program} {w : World} {K : PySem.W.Frag} {mg : Str → Option Value} {base : Heap}
theorem lam_SL (n_len : mg "len" = none) : LmC P w K mg base 0 qSL (lPrm lamSL) (lBod lamSL) (lSc lamSL) ["lot"] [] (spKey K) where
  kind := rfl
  co := rfl
  gen := rfl
  noc := by decide +kernel
  loc := by decide +kernel
  fre := by decide +kernel
  nd := by decide +kernel
  len := fun cvs vs H Q E h => by
    obtain ⟨_, _, rfl, _⟩ := h
    rfl
  bind := fun us cl pm cv ct h => by
    match us, h with
    | [a], _ => rfl
  run := fun cvs f c cl A outer s H vs Q E hr hc h => by
    obtain ⟨lv, l, rfl, ⟨b, rfl, eb⟩, q⟩ := h
    obtain rfl : cvs = [] := List.eq_nil_of_length_eq_zero hc
    refine ⟨_, pe_tup (pa_cons (pe_callB call_len_seq (by rfl) n_len PySem.boot_len (pa_cons (pv 0) pa_nil)) (pa_cons (pv 0) pa_nil)), ?_⟩
    refine ⟨_, rfl, b, _, rfl, .inr (SqT.of eb), _, rfl, by show 2 ≤ sizeLine; decide, fun p hp => ?_⟩
    have s := same_new hp (.tup [V.int ((l.map V.str).length : Nat), .ref b])
    refine q p _ s ⟨p, .ref b, rfl, ?_, ⟨b, rfl, s _ _ eb⟩⟩
    rw [upd_same, List.length_map]
def spSorted (K : PySem.W.Frag) (T : List (Addr × Str)) : Sp := fun vs H Q _ => ∃ (a : Addr) (its : List V) (ts : List Tale), vs = [.ref a] ∧ H a = some (.lst its) ∧ All2 (TalH H) its ts ∧ (namesT ts).length ≤ 1000 ∧ (lotS (namesT ts)).length ≤ 4 ∧ Tabs T H ∧ ∀ r H', ExtN H H' → Tabs T H' → LosH H' r (OL (namesT ts)) → Q (.ref r) H'
theorem ok_SL {f c Pt : Addr} {T : List (Addr × Str)} {oc : Value} {od an : Option Addr} {osl : Array (Option Value)} {dV kV doc pm ct : Value}
    (lk : K.lookup f = some ⟨oc, od, .func (PySem.W.fnOf "_law_sorted_lots" "_law_sorted_lots" (defArgs s__law_sorted_lots) (defBody s__law_sorted_lots) (defScope s__law_sorted_lots) dV kV doc pm an (.ref c) ct), osl⟩) (cd : PySem.W.codeIn K (.ref c) "_law_sorted_lots" = true) (TB : TabB base mg c Pt)
    (inT : (Pt, qSL) ∈ T) (one : ∀ y ∈ T, y.1 = Pt → y.2 = qSL) (n_list : mg "list" = none) (n_set : mg "set" = none) (n_sorted : mg "sorted" = none) (n_len : mg "len" = none) :
    FnOk P w K mg base CX0 4 f (PySem.W.fnOf "_law_sorted_lots" "_law_sorted_lots" (defArgs s__law_sorted_lots) (defBody s__law_sorted_lots) (defScope s__law_sorted_lots) dV kV doc pm an (.ref c) ct) ["tales"] (spSorted K T) := by
  refine okCD lk cd sc__law_sorted_lots (fun vs H Q E h => ?_) (fun A outer s H vs Q E hr h => ?_)
  · obtain ⟨_, _, _, rfl, _⟩ := h
    rfl
  · obtain ⟨a, its, ts, rfl, ea, al, ln, l4, tabs, q⟩ := h
    refine ⟨_, (pss_cons (ps_par (i := 1) (j := 2) (by rfl) sc__law_sorted_lots.nd rfl rfl (by decide) rfl rfl (pa_cons (pe_lst pa_nil) (pa_cons (pe_lst (pa_cons (pe_tup pa_nil) pa_nil)) pa_nil)) (by rfl))
    (Evl.pss_cut (ps_for (passes_of rfl) rfl (pi_seq (pv 0)) (pg_name (i := 3) sc__law_sorted_lots.nd rfl (Or.inl rfl))
      (pss_one (ps_for (passes_of rfl) rfl (pi_seq (pv 3)) (pg_name (i := 4) sc__law_sorted_lots.nd rfl (Or.inl rfl))
      (pss_one (ps_set (i := 1) sc__law_sorted_lots.nd rfl (Or.inl rfl) (pe_op op_cat (pv 1) (pe_callTy call_list_of (by rfl) n_list (by decide +kernel) (pa_cons (pv 4) pa_nil))))))))
    (Evl.pss_cut (ps_for (passes_of rfl) rfl (pi_seq (pe_callB (cr_sorted2 rfl) (by rfl) n_sorted (by decide +kernel) (pa_cons (pe_callTy (cr_set rfl) (by rfl) n_set (by decide +kernel) (pa_cons (pv 1) pa_nil)) pa_nil))) (pg_name (i := 5) sc__law_sorted_lots.nd rfl (Or.inr rfl))
      (pss_one (ps_set (i := 2) sc__law_sorted_lots.nd rfl (Or.inl rfl) (pe_op op_cat (pv 2) (pe_lc (own := [("lot", 4)]) (g := gName 4) rfl sc__law_sorted_lots.nd (pi_seq (pv 2)) (blkOk_by (N := ["tales", "names", "found", "tale", "lot", "name"]) (sc := defScope s__law_sorted_lots) (by decide +kernel)) (fun _ _ _ _ _ => pg_name (i := 4) sc__law_sorted_lots.nd rfl (Or.inl rfl)) (fun _ _ _ _ _ => pts_nil) (fun _ _ _ _ _ => pe_op (r := rCatA K) op_catA (pv 4) (pe_tup (pa_cons (pv 5) pa_nil))))))))
    (pss_one (ps_ret (pe_callBK (cr_sortK (lv := 1) (spf := spKey K []) (hr.mono (by decide)) hr.units) (by rfl) n_sorted (by decide +kernel) (pa_cons (pv 2) pa_nil) (pk_cons (pe_clo (T := T) TB rfl inT one rfl (fun y m e => absurd e (noSL y m))) pk_nil))))))), ?_⟩
    refine ⟨by show 0 ≤ sizeLine; decide, fun f0 kf0 => ?_⟩
    have s1 := same_new kf0 (.lst [])
    have e0 : upd H f0 (.lst []) f0 = some (.lst ([].map V.str)) := upd_same
    generalize upd H f0 (.lst []) = H1 at s1 e0 ⊢
    refine ⟨by show 0 ≤ sizeLine; decide, fun t kt => ⟨by show 1 ≤ sizeLine; decide, fun lp kl => ?_⟩⟩
    have a0 := same_new kt (.tup [])
    have a1 := same_new kl (.lst [.ref t])
    have et := a1 _ _ (show (upd H1 t (.tup [])) t = _ from upd_same)
    have el : upd (upd H1 t (.tup [])) lp (.lst [.ref t]) lp = some (.lst [.ref t]) := upd_same
    have s2 : Same H1 (upd (upd H1 t (.tup [])) lp (.lst [.ref t])) := a0.trans a1
    have e02 := s2 _ _ e0
    have s12 := s1.trans s2
    generalize upd (upd H1 t (.tup [])) lp (.lst [.ref t]) = H2 at et el s2 e02 s12 ⊢
    refine ⟨_, _, rfl, ?_⟩
    let St : L2.St → Addr → Prop := fun σ f => ∃ o3 o4 o5, σ = [some (.ref a), some (.ref f), some (.ref lp), o3, o4, o5]
    refine ⟨fun σ H' => ∃ f, St σ f ∧ Same H2 H' ∧ H' f = some (.lst ((namesT ts).map V.str)), ?_, ?_⟩
    · refine ⟨_, rfl, a, its, rfl, SqX.lst (s12 _ _ ea), fun J S W z0 => ?_⟩
      refine for_sq W (fun i σ H' => ∃ f, St σ f ∧ Same H2 H' ∧ H' f = some (.lst ((namesT (ts.take i)).map V.str))) ⟨f0, ⟨none, none, none, rfl⟩, Same.refl _, e02⟩ (fun i σ H' ⟨f, st, s, e⟩ => W.keep (fun o e => s _ _ e) z0) ?_ ?_
      · rintro i σ H3 y ey ⟨f, ⟨o3, o4, o5, rfl⟩, s3, e3⟩
        obtain ⟨t, et, tb, jts, rfl, etb, bl⟩ := al.get ey
        have s03 := s12.trans s3
        have l1 : (namesT (ts.take (i + 1))).length ≤ 1000 := Nat.le_trans (flat_le _ ts (i + 1)) ln
        have eT : namesT (ts.take (i + 1)) = namesT (ts.take i) ++ t.flatMap id := flat_take _ ts et
        refine ⟨_, rfl, tb, jts, rfl, SqX.tup (s03 _ _ etb), fun J2 S2 W2 z2 => ?_⟩
        refine for_sq W2 (fun j σ H' => ∃ f, St σ f ∧ Same H3 H' ∧ H' f = some (.lst ((namesT (ts.take i) ++ (t.take j).flatMap id).map V.str))) ⟨f, ⟨_, _, _, rfl⟩, Same.refl _, by rw [e3]; simp⟩ (fun i σ H' ⟨f, st, s, e⟩ => W2.keep (fun o e => s _ _ e) z2) ?_ ?_
        · rintro j σ H4 x ex ⟨g, ⟨o3, o4, o5, rfl⟩, s4, e4⟩
          obtain ⟨l, el, lb, rfl, elb⟩ := bl.get ex
          have eL : (t.take (j + 1)).flatMap id = (t.take j).flatMap id ++ l := flat_take id t el
          have l2 := flat_le id t (j + 1)
          rw [eL, List.length_append] at l2
          rw [eT, List.length_append] at l1
          refine ⟨_, rfl, _, rfl, lb, _, rfl, .inr (SqT.of ((s03.trans s4) _ _ elb)), fun c kc => ?_⟩
          have s5 := same_new kc (.lst (l.map V.str))
          have e5 : upd H4 c (.lst (l.map V.str)) c = some (.lst (l.map V.str)) := upd_same
          generalize upd H4 c (.lst (l.map V.str)) = H5 at s5 e5 ⊢
          refine ⟨g, c, _, _, rfl, rfl, s5 _ _ e4, e5, by rw [List.length_map, List.length_map, List.length_append, sizeLine_eq]; omega, fun c2 kc2 => ?_⟩
          rw [← List.map_append, List.append_assoc, ← eL]
          exact ⟨c2, ⟨_, _, _, rfl⟩, (s4.trans s5).trans (same_new kc2 _), upd_same⟩
        · rintro σ H4 ⟨g, st, s4, e4⟩
          rw [bl.len, List.take_length, ← eT] at e4
          exact ⟨g, st, s3.trans s4, e4⟩
      · rintro σ H3 ⟨f, st, s3, e3⟩
        rw [al.len, List.take_length] at e3
        exact ⟨f, st, s3, e3⟩
    rintro σ H3 ⟨f, ⟨o3, o4, o5, rfl⟩, s3, e3⟩
    refine ⟨fun σ H' => ∃ fp, (∃ o3 o4 o5, σ = [some (.ref a), some (.ref f), some (.ref fp), o3, o4, o5]) ∧ Same H2 H' ∧ LosH H' fp (LL (lotS (namesT ts))), ?_, ?_⟩
    · refine ⟨_, rfl, rd_srtS (SqX.lst e3) ln fun sp H4 s4 e4 => ?_⟩
      have s24 := s3.trans s4
      have et := s24 _ _ et
      have el := s24 _ _ el
      refine ⟨sp, _, rfl, SqX.lst e4, fun J S Wk s0 => ?_⟩
      refine for_sq Wk (fun i σ H' => ∃ fp o3 o4 o5, σ = [some (.ref a), some (.ref f), some (.ref fp), o3, o4, o5] ∧ Same H4 H' ∧ ∃ its, H' fp = some (.lst its) ∧ All2 (fun v l => LotH H' v l ∧ l.length ≤ i) its (((lotS (namesT ts)).take i).foldl growP [[]]))
        ⟨lp, _, _, _, rfl, Same.refl _, [.ref t], el, .cons ⟨⟨t, rfl, et⟩, Nat.zero_le _⟩ .nil⟩ (fun i σ H' p => Wk.keep (fun o e => let ⟨_, _, _, _, _, s, _⟩ := p; s _ _ e) s0) ?_ ?_
      · rintro i σ H5 y ey ⟨fp, o3, o4, o5, rfl, s5, its, eit, al⟩
        obtain ⟨x, ex, rfl⟩ := str_at ey
        have hi : i < (lotS (namesT ts)).length := (List.getElem?_eq_some_iff.mp ex).1
        have len1 := LL_small l4 i
        refine ⟨_, rfl, _, rfl, fp, its, rfl, SqX.lst eit, fun J2 S2 W2 z2 D hD => ?_⟩
        refine lc_mf (ds := ((lotS (namesT ts)).take i).foldl growP [[]]) W2 (fun _ => true) (fun H' y d => LotH H' y (d ++ [x]) ∧ (d ++ [x]).length ≤ i + 1) z2 hD al.len (fun j y d H' ey ed s m => ?_) (fun H6 ys s6 e6 al6 => ?_)
        · obtain ⟨d', ed', hd, ld⟩ := al.get ey
          obtain rfl : d' = d := Option.some.inj (ed'.symm.trans ed)
          refine ⟨rfl, _, rfl, _, rfl, by show 1 ≤ sizeLine; decide, fun t1 k1 => ?_⟩
          have u1 := same_new k1 (.tup [V.str x])
          obtain ⟨db, rfl, edb⟩ := (hd.same s).same u1
          refine rd_catT edb upd_same (by rw [List.length_map]; show _ + 1 ≤ _; omega) fun b H7 s7 hb => ?_
          refine mf_yes m hD (fun _ _ _ _ f h => ⟨h.1.fix f, h.2⟩) ed (by omega) (u1.trans s7) rfl ⟨⟨b, rfl, ?_⟩, ?_⟩
          · rw [List.map_append]; exact hb
          · rw [List.length_append]; show _ + 1 ≤ _; omega
        · rw [Rd.filter_all] at al6
          have e7 := s6 _ _ eit
          have l6 := al.len
          have l7 := al6.len
          refine ⟨fp, D, its, ys, rfl, rfl, e7, e6, by rw [sizeLine_eq]; omega, fun np2 k7 => ?_⟩
          have s7 := same_new k7 (.lst (its ++ ys))
          refine ⟨np2, _, _, _, rfl, (s5.trans s6).trans s7, its ++ ys, upd_same, ?_⟩
          rw [foldl_take growP _ _ ex]
          unfold growP
          refine All2.app (al.imp fun _ _ h => ⟨h.1.same (s6.trans s7), by have := h.2; omega⟩) ?_
          exact (Sq.All2.of_mapR (f := fun d => d ++ [x]) (R := fun v l => LotH _ v l ∧ l.length ≤ i + 1) al6).imp fun _ _ h => ⟨h.1.same s7, h.2⟩
      · rintro σ H5 ⟨fp, o3, o4, o5, rfl, s5, its, eit, al⟩
        rw [List.length_map, List.take_length] at al
        exact ⟨fp, ⟨_, _, _, rfl⟩, s24.trans s5, its, eit, al.imp fun _ _ h => h.1⟩
    rintro σ H4 ⟨fp, ⟨o3', o4', o5', rfl⟩, s4, los⟩
    have s04 := s12.trans s4
    refine ⟨_, rfl, ?_⟩
    dsimp only [tNil]
    refine ⟨tabs.ext (fun b o e => s04 b o e), fun cf cc H5 x5 t5 n5 c5 => ?_⟩
    have s6 := same_new n5 (CloO qSL (lPrm lamSL) (lBod lamSL) (lSc lamSL) (cloFrom (envOfC "_law_sorted_lots" (defScope s__law_sorted_lots) s.heap.objs.size f (.ref c)).cells (lSc lamSL).names []) cc cf)
    have cv := CallV.clo (lv := 1) (H := upd H5 cf (CloO qSL (lPrm lamSL) (lBod lamSL) (lSc lamSL) (cloFrom (envOfC "_law_sorted_lots" (defScope s__law_sorted_lots) s.heap.objs.size f (.ref c)).cells (lSc lamSL).names []) cc cf)) (lam_SL (P := P) (w := w) (K := K) (base := base) n_len) (by rw [clSL]; exact celsSL) upd_same (s6 _ _ c5) (by decide)
    have t6 := t5.ext (fun b o e => s6 b o e)
    obtain ⟨its4, e4, al4⟩ := los
    have e5 : H5 fp = some (.lst its4) := x5 _ _ e4 (fun ps z => by cases z)
    have al6 := al4.imp fun _ _ r => (r.on (.ext x5)).same s6
    dsimp only [tNil]
    refine sort_allK (enc := kD) (s6 _ _ e5) al6 cv (fun g _ => dep_kD g) alike_kD (.inl (PySem.W.Sortable.tuples fun l => ⟨_, _, rfl⟩)) (fun v g r H' s => ?_) fun p its' H7 s7 e7 al7 => ?_
    · exact ⟨v, g, rfl, r.same s, fun p H'' s2 k => ⟨s2, k.dp⟩⟩
    exact q p H7 (fun b o e n => s7 _ _ (s6 _ _ (x5 _ _ (s04 _ _ e) n))) (t6.ext fun b o e => s7 _ _ e) ⟨its', e7, al7.imp fun _ _ r => r.same s7⟩
end
end K6

namespace K6
open PySem PySem.Spec PyProof.Rows L2 Hb St Sq Ow En Zp RZ Rd Xb Da Lo Cq LamX Lc Lp Lg Sk
theorem LosH.dp {K : PySem.W.Frag} {H : Hp} {a : Addr} {ls : List Lot} (h : LosH H a ls) : Dp K H (.ref a) (.list (ls.map lD)) := let ⟨_, e, al⟩ := h; .lst (SqL.of e) (dp_all (fun _ _ r => r.dp) al)
theorem sh_los {ls : List Lot} (h : ∀ l ∈ ls, ∀ x ∈ l, IsNm x) : Sh 2 (.list (ls.map lD)) := sh_lst fun l hl => sh_lD (h l hl)
theorem rd_neLos {K : PySem.W.Frag} {H : Hp} {Q : VK} {a b : Addr} {t u : List Lot} (ha : LosH H a t) (hb : LosH H b u) (na : ∀ l ∈ t, ∀ x ∈ l, IsNm x) (nb : ∀ l ∈ u, ∀ x ∈ l, IsNm x) (q : Q (.bl (!decide (t = u))) H) : rNeD K (.ref a) (.ref b) H Q :=
  ⟨_, _, ha.dp, hb.dp, (sh_los na).ok (by decide), (sh_los nb).ok (by decide), by
    have : PyData.eqv (.list (t.map lD)) (.list (u.map lD)) = decide (t = u) := eqvAll_map eqv_lD t u
    rw [this]; exact q⟩
theorem rd_eqL {K : PySem.W.Frag} {H : Hp} {Q : VK} {v u : V} {a b : Lot} (ha : LotH H v a) (hb : LotH H u b) (na : ∀ x ∈ a, IsNm x) (nb : ∀ x ∈ b, IsNm x) (q : Q (.bl (decide (a = b))) H) : rEqD K v u H Q :=
  ⟨lD a, lD b, ha.dp, hb.dp, (sh_lD na).ok (by decide), (sh_lD nb).ok (by decide), by rw [eqv_lD]; exact q⟩
theorem inV_nats (i : Nat) (f : List Nat) : inV (.int (i : Nat)) (f.map natV) = decide (i ∈ f) := by
  unfold inV
  rw [List.any_map]
  induction f with
  | nil => simp
  | cons y r ih =>
    rw [List.any_cons, ih]
    have e : ((fun z => eqV z (V.int (i : Nat))) ∘ natV) y = decide (i = y) := by
      show decide (_ = _) = _
      exact decide_eq_decide.mpr ⟨fun h => (Int.ofNat_inj.mp h).symm, fun h => by rw [h]⟩
    rw [e]
    simp [List.mem_cons]
theorem dp_nats {K : PySem.W.Frag} {H : Hp} : ∀ f : List Nat, DpAll K H (f.map natV) (f.map fun i => PyData.int (i : Nat))
  | [] => .nil
  | i :: r => .cons (.int _) (dp_nats r)
theorem flat_nats (f : List Nat) : (f.map natV).all flatV = true := by rw [List.all_map]; exact List.all_eq_true.mpr fun _ _ => rfl
theorem rg_at {n j : Nat} {y : V} (h : ((List.range n).map fun k : Nat => V.int (0 + (k : Nat)))[j]? = some y) : y = .int (j : Nat) ∧ j < n := by
  rw [List.getElem?_map] at h
  rcases Nat.lt_or_ge j n with c | c
  · rw [List.getElem?_range c] at h
    have := Option.some.inj h
    exact ⟨by rw [← this]; show V.int (0 + _) = _; rw [Int.zero_add], c⟩
  · rw [List.getElem?_eq_none (by rw [List.length_range]; exact c)] at h
    cases h
section
variable {P : Program} {w : World} {K : PySem.W.Frag} {mg : Str → Option Value} {base : Heap}
/-! ### _law_heard -/
abbrev s__law_heard : Stmt := top 46
theorem sc__law_heard : FnScope ["tale", "names", "parts", "lot", "part", "name"] ["tale", "names"] (defScope s__law_heard) := ⟨rfl, rfl, rfl, by decide +kernel, rfl, by decide +kernel, by decide +kernel⟩
def spHeard (K : PySem.W.Frag) : Sp := fun vs H Q _ => ∃ (v : V) (b : Addr) (t : Tale) (ns : List Str), vs = [v, .ref b] ∧ TalH H v t ∧ SqX K H b (ns.map V.str) ∧ TlOk t ∧ ∀ p H', Same H H' → LosH H' p (thinT ns t) → Q (.ref p) H'
theorem ok_heard {f : Addr} {fd : FuncData} (F : Fun K "_law_heard" "_law_heard" s__law_heard f fd) (n_tuple : mg "tuple" = none) : FnOk P w K mg base CX0 1 f fd ["tale", "names"] (spHeard K) := by
  refine F.ok sc__law_heard (fun vs H Q E h => ?_) (fun cdv A outer s H vs Q E hr h => ?_)
  · obtain ⟨_, _, _, _, rfl, _⟩ := h
    rfl
  · obtain ⟨v, b, t, ns, rfl, ht, hb, ok, q⟩ := h
    refine ⟨_, (Evl.pss_cut (ps_setLc (i := 2) (own := [("lot", 3)]) (g := gName 3) (by rfl) sc__law_heard.nd rfl rfl (sw_true rfl rfl rfl (by decide +kernel)) (pi_seq (pv 0)) (blkOk_by (N := ["tale", "names", "parts", "lot", "part", "name"]) (sc := defScope s__law_heard) (by decide +kernel)) (fun _ _ _ _ _ => pg_name (i := 3) sc__law_heard.nd rfl (Or.inl rfl)) (fun _ _ _ _ _ => pts_nil) (fun _ _ _ _ _ => pe_callTy (T := "tuple") (r := rTupE K) call_tupE (by rfl) n_tuple (by decide +kernel) (pa_cons (pe_lc (own := [("name", 5)]) (g := gName 5) rfl sc__law_heard.nd (pi_seqK (K := K) rfl (pv 3)) (blkOk_by (N := ["tale", "names", "parts", "lot", "part", "name"]) (sc := { kind := .function, names := [((".0" : Str), .local), (("lot" : Str), .local), (("tuple" : Str), .globalImplicit), (("names" : Str), .cell)], isGenerator := false, isCoroutine := false }) (by decide +kernel)) (fun _ _ _ _ _ => pg_name (i := 5) sc__law_heard.nd rfl (Or.inl rfl)) (fun _ _ _ _ _ => pts_one (pt_cmpR (r := rIn K false) op_in_seq (pv 5) (pv 1) rfl)) (fun _ _ _ _ _ => pv 5)) pa_nil)))
    (pss_one (ps_ret (pe_lc (own := [("part", 4)]) (g := gName 4) rfl sc__law_heard.nd (pi_seq (pv 2)) (blkOk_by (N := ["tale", "names", "parts", "lot", "part", "name"]) (sc := defScope s__law_heard) (by decide +kernel)) (fun _ _ _ _ _ => pg_name (i := 4) sc__law_heard.nd rfl (Or.inl rfl)) (fun _ _ _ _ _ => pts_one (pt_cmpR (r := rNeD K) (op_neD hr.units) (pv 4) (pe_tup pa_nil) (nomark _))) (fun _ _ _ _ _ => pv 4))))), ?_⟩
    obtain ⟨a, its, rfl, ea, al⟩ := id ht
    have l1 := ok.len
    refine ⟨fun σ H' => ∃ (D : Addr) (o3 o4 o5 : Option V), σ = [some (.ref a), some (.ref b), some (.ref D), o3, o4, o5] ∧ Same H H' ∧ LosH H' D (t.map (thinL ns)), ?_, ?_⟩
    · refine ⟨_, rfl, a, its, rfl, SqX.tup ea, fun J S W0 z0 D kD => ?_⟩
      refine lc_mf (ds := t) W0 (fun _ => true) (fun H y l => LotH H y (thinL ns l)) z0 kD al.len (fun i y l H' ey el s m => ?_) (fun H1 ys s1 e1 al1 => ?_)
      · obtain ⟨l', el', lb, rfl, elb⟩ := al.get ey
        obtain rfl : l' = l := Option.some.inj (el'.symm.trans el)
        have ll := ok.lot l' (at_mem el)
        refine ⟨rfl, _, rfl, lb, _, rfl, SqX.tup (s _ _ elb), fun J2 S2 W2 z2 D2 kD2 => ?_⟩
        refine lc_mf (ds := l') W2 (fun x => decide (x ∈ ns)) (fun _ y d => y = .str d) z2 kD2 (by rw [List.length_map]) (fun j y d H2 ey ed s2 m2 => ?_) (fun H2 zs s2 e2 al2 => ?_)
        · obtain ⟨d', ed', rfl⟩ := str_at ey
          obtain rfl : d' = d := Option.some.inj (ed'.symm.trans ed)
          refine ⟨rfl, _, rfl, _, rfl, in_strs (sqxSame (s.trans s2) hb) ⟨_, rfl, iteD (fun c => ?_) fun c => ?_⟩⟩
          · exact ⟨_, rfl, mf_yes m2 kD2 (fun _ _ _ _ _ h => h) ed (by omega) (Same.refl _) (decide_eq_true c) rfl⟩
          · exact mf_no m2 (fun _ _ _ _ _ h => h) ed (Same.refl _) (decide_eq_false c)
        · have ez := al2.map_eq (f := V.str) fun _ _ h => h
          rw [ez] at e2
          refine ⟨D2, _, rfl, .inl ⟨SqL.of e2, fun p hp => ?_⟩⟩
          exact mf_yes m kD (fun _ _ _ _ f h => h.fix f) el (by omega) (s2.trans (same_new hp _)) rfl ⟨p, rfl, upd_same⟩
      · rw [Rd.filter_all] at al1
        exact ⟨D, _, _, _, rfl, s1, ys, e1, al1.of_mapR⟩
    rintro σ H1 ⟨D, o3, o4, o5, rfl, s1, ys, e1, al1⟩
    refine ⟨_, rfl, D, ys, rfl, SqX.lst e1, fun J S W0 z0 D2 kD2 => ?_⟩
    refine lc_mf (ds := t.map (thinL ns)) W0 (fun l => !decide (l = [])) (fun H y l => LotH H y l) z0 kD2 al1.len (fun i y l H' ey el s m => ?_) (fun H2 zs s2 e2 al2 => ?_)
    · obtain ⟨l', el', hl⟩ := al1.get ey
      obtain rfl : l' = l := Option.some.inj (el'.symm.trans el)
      have hl' := hl.same s
      have lt : (t.map (thinL ns)).length ≤ 100 := by rw [List.length_map]; exact l1
      have nm : ∀ x ∈ l', IsNm x := fun x hx => by
        obtain ⟨m, hm, rfl⟩ := List.mem_map.mp (at_mem el)
        exact ok.nm m hm x (thin_in.mp hx).1
      refine ⟨rfl, _, rfl, by show 0 ≤ sizeLine; decide, fun e ke => ?_⟩
      have s3 := same_new ke (.tup [])
      refine ⟨lD l', lD [], (hl'.same s3).dp, LotH.dp ⟨e, rfl, upd_same⟩, (sh_lD nm).ok (by decide), by decide, ?_⟩
      rw [eqv_lD]
      by_cases c : l' = []
      · rw [decide_eq_true c]
        exact ⟨_, rfl, iteF (mf_no m (fun _ _ _ _ f h => h.fix f) el s3 (by rw [decide_eq_true c]; rfl))⟩
      · rw [decide_eq_false c]
        exact ⟨_, rfl, iteT ⟨_, rfl, mf_yes m kD2 (fun _ _ _ _ f h => h.fix f) el (by omega) s3 (by rw [decide_eq_false c]; rfl) (hl'.same s3)⟩⟩
    · exact q D2 H2 (s1.trans s2) ⟨zs, e2, al2⟩
/-! ### _law_matched -/
abbrev s__law_matched : Stmt := top 48
theorem sc__law_matched : FnScope ["one", "other", "found", "lot", "spots", "at"] ["one", "other"] (defScope s__law_matched) := ⟨rfl, rfl, rfl, by decide +kernel, rfl, by decide +kernel, by decide +kernel⟩
def spMatched (K : PySem.W.Frag) : Sp := fun vs H Q _ => ∃ (v u : V) (a b : Tale), vs = [v, u] ∧ TalH H v a ∧ TalH H u b ∧ TlOk a ∧ TlOk b ∧ ∀ x H', Same H H' → OptN H' x (matF a b) → Q x H'
theorem ok_matched {f : Addr} {fd : FuncData} (F : Fun K "_law_matched" "_law_matched" s__law_matched f fd) (n_len : mg "len" = none) (n_range : mg "range" = none) (n_tuple : mg "tuple" = none) : FnOk P w K mg base CX0 1 f fd ["one", "other"] (spMatched K) := by
  refine F.ok sc__law_matched (fun vs H Q E h => ?_) (fun cdv A outer s H vs Q E hr h => ?_)
  · obtain ⟨_, _, _, _, rfl, _⟩ := h
    rfl
  · obtain ⟨v, u, a, b, rfl, ⟨ap, its, rfl, ea, al⟩, ⟨bp, jts, rfl, eb, bl⟩, oa, ob, q⟩ := h
    refine ⟨_, (pss_cons (ps_set (i := 2) sc__law_matched.nd rfl (Or.inr rfl) (pe_lst pa_nil))
    (Evl.pss_cut (ps_for PassesOwn.never rfl (pi_seq (pv 0)) (pg_name (i := 3) sc__law_matched.nd rfl (Or.inr rfl))
      (Evl.pss_cut (ps_setLc (i := 4) (own := [("at", 5)]) (g := gName 5) (by rfl) sc__law_matched.nd rfl rfl (sw_true rfl rfl rfl (by decide +kernel)) (pi_range1 (by rfl) n_range (pa_cons (pe_callB call_len_seq (by rfl) n_len PySem.boot_len (pa_cons (pv 1) pa_nil)) pa_nil)) (blkOk_by (N := ["one", "other", "found", "lot", "spots", "at"]) (sc := defScope s__law_matched) (by decide +kernel)) (fun _ _ _ _ _ => pg_name (i := 5) sc__law_matched.nd rfl (Or.inl rfl)) (fun _ _ _ _ _ => pts_one (PW.pt (pw_and (pt_cmpR (r := rEqD K) (op_eqD hr.units) (pe_ix (r := rIxT K) ix_tup (pv 1) (pv 5) (fun _ _ => rfl)) (pv 3) (nomark _)) (pw_and1 (pt_cmpR (r := rIn K true) op_notIn_seq (pv 5) (pv 2) rfl))))) (fun _ _ _ _ _ => pv 5))
    (Evl.pss_cut (ps_if (pt_cmpR (op_eqD hr.units) (pv 4) (pe_lst pa_nil) (nomark _)) (pss_one (ps_ret pe_non)) pss_nil)
    (pss_one (ps_expr (pe_bm PySem.F.plainAttrs_list PySem.F.slot_list_append PySem.F.type_list_append mt_append (pv 2) (pa_cons (pe_ix ix_list (pv 4) pe_int (fun _ _ => rfl)) pa_nil)))))))
    (pss_one (ps_ret (pe_ifExp (pt_cmpR op_eq (pe_callB call_len_seq (by rfl) n_len PySem.boot_len (pa_cons (pv 2) pa_nil)) (pe_callB call_len_seq (by rfl) n_len PySem.boot_len (pa_cons (pv 1) pa_nil)) (nomark _)) (pe_callTy call_tuple_of (by rfl) n_tuple (by decide +kernel) (pa_cons (pv 2) pa_nil)) pe_non))))), ?_⟩
    refine ⟨by show 0 ≤ sizeLine; decide, fun M kM => ?_⟩
    have s1 := same_new kM (.lst [])
    have eM : upd H M (.lst []) M = some (.lst []) := upd_same
    have fin : ∀ H', Kept M (upd H M (.lst [])) H' → Same H H' := fun H' k b o e => k b o (s1 _ _ e) (ne_of_none e kM)
    have nM : ∀ {b : Addr} {o : HO}, H b = some o → b ≠ M := fun e => ne_of_none e kM
    have ea1 := s1 _ _ ea
    have eb1 := s1 _ _ eb
    have na := nM ea
    have nb := nM eb
    have al := al.imp fun _ _ r => LotH.same r s1
    have bl := bl.imp fun _ _ r => LotH.same r s1
    generalize upd H M (.lst []) = H1 at s1 eM fin ea1 eb1 al bl ⊢
    have tup : ∀ {H'}, Kept M H1 H' → TupK H1 H' := fun k c xs e => k c _ e fun z => by rw [z, eM] at e; cases e
    let S : L2.St → Prop := fun σ => ∃ o3 o4 o5, σ = [some (.ref ap), some (.ref bp), some (.ref M), o3, o4, o5]
    let Inv : Hp → Nat → Prop := fun H' i => ∃ f, Kept M H1 H' ∧ H' M = some (.lst (f.map natV)) ∧ matL b (a.drop i) f = matL b a [] ∧ f.length = i
    have la := oa.len
    have lb := ob.len
    refine ⟨fun σ H' => S σ ∧ Inv H' a.length, ?_, ?_⟩
    · refine ⟨_, rfl, ap, its, rfl, SqX.tup ea1, fun J S2 W z0 => ?_⟩
      refine for_sq W (fun i σ H' => S σ ∧ Inv H' i) ⟨⟨none, none, none, rfl⟩, [], Kept.refl _ _, eM, rfl, rfl⟩ (fun i σ H' ⟨_, f, k, _⟩ => W.keep (fun o e => by rw [ea1] at e; cases e; exact k _ _ ea1 na) z0) ?_ ?_
      · rintro i σ H2 x ex ⟨⟨o3, o4, o5, rfl⟩, f, k2, eM2, ma, fl⟩
        obtain ⟨l, el, hl⟩ := al.get ex
        obtain ⟨hi, gi⟩ := List.getElem?_eq_some_iff.mp el
        rw [List.drop_eq_getElem_cons hi, gi] at ma
        have hl2 := hl.on (tup k2)
        refine ⟨fun σ H' => ∃ D o5, σ = [some (.ref ap), some (.ref bp), some (.ref M), some x, some (.ref D), o5] ∧ Same H2 H' ∧ H' D = some (.lst ((spots b f l).map natV)), ?_, ?_⟩
        · refine ⟨_, rfl, bp, _, rfl, .inr (SqT.of (k2 _ _ eb1 nb)), ?_⟩
          refine ⟨_, rfl, by omega, by rw [bl.len]; omega, fun D kD => ?_⟩
          refine lc_mf (ds := List.range b.length) (wk_range (a := D)) (fun i => decide (b[i]? = some l) && !decide (i ∈ f)) (fun _ y k => y = natV k) trivial kD (by simp; exact bl.len) (fun j y k H' ey ek s m => ?_) (fun H3 zs s3 e3 al3 => ?_)
          · obtain ⟨rfl, hj⟩ := rg_at ey
            obtain ⟨hj2, ekj⟩ := List.getElem?_eq_some_iff.mp ek
            rw [List.getElem_range] at ekj
            subst ekj
            rw [List.length_range] at hj2
            have em : b[j]? = some b[j] := List.getElem?_eq_getElem hj2
            obtain ⟨y, ey', hm⟩ := bl.getR em
            have hm2 := (hm.on (tup k2)).same s
            have ll : (List.range b.length).length ≤ 100 := by rw [List.length_range]; exact lb
            have sp : b[j]? = some l ↔ b[j] = l := by rw [em]; exact ⟨fun h => Option.some.inj h, fun h => by rw [h]⟩
            refine ⟨rfl, _, rfl, _, rfl, bp, jts, (j : Nat), y, rfl, rfl, SqT.of (s _ _ (k2 _ _ eb1 nb)), atI_nat ey', _, rfl, rd_eqL hm2 (hl2.same s) (ob.nm _ (List.getElem_mem hj2)) (oa.nm l (at_mem el)) ⟨_, rfl, ?_⟩⟩
            by_cases c : b[j] = l
            · rw [decide_eq_true c]
              refine iteT ⟨_, rfl, _, rfl, M, _, rfl, .inl (SqL.of (s _ _ eM2)), rfl, flat_nats f, _, rfl, ?_⟩
              rw [inV_nats, if_pos rfl]
              by_cases c2 : j ∈ f
              · rw [decide_eq_true c2]
                exact iteF (mf_no m (fun _ _ _ _ _ h => h) ek (Same.refl _) (by rw [decide_eq_true c2, Bool.not_true, Bool.and_false]))
              · rw [decide_eq_false c2]
                exact iteT ⟨_, rfl, mf_yes m kD (fun _ _ _ _ _ h => h) ek (by omega) (Same.refl _) (by rw [decide_eq_false c2, decide_eq_true (sp.mpr c)]; rfl) rfl⟩
            · rw [decide_eq_false c]
              exact iteF (mf_no m (fun _ _ _ _ _ h => h) ek (Same.refl _) (by rw [decide_eq_false fun h => c (sp.mp h), Bool.false_and]))
          · have ez := al3.map_eq (f := natV) fun _ _ h => h
            rw [ez] at e3
            exact ⟨D, _, rfl, s3, e3⟩
        rintro σ H3 ⟨D, o5, rfl, s3, eD⟩
        have eM3 := s3 _ _ eM2
        have k3 : Kept M H1 H3 := k2.trans fun b o e _ => s3 b o e
        refine ⟨fun σ H' => σ = [some (.ref ap), some (.ref bp), some (.ref M), some x, some (.ref D), o5] ∧ Same H3 H' ∧ spots b f l ≠ [], ?_, ?_⟩
        · refine ⟨_, rfl, by show 0 ≤ sizeLine; decide, fun p kp => ?_⟩
          have s4 := same_new kp (.lst [])
          have ep : upd H3 p (.lst []) p = some (.lst []) := upd_same
          generalize upd H3 p (.lst []) = H4 at s4 ep ⊢
          refine ⟨.list ((spots b f l).map fun i => PyData.int (i : Nat)), .list [], .lst (SqL.of (s4 _ _ eD)) (dp_nats _), .lst (SqL.of ep) .nil, (sh_lst (n := 0) fun x hx => sh_int 0 _).ok (by decide), by decide, _, rfl, ?_⟩
          rw [eqv_nilL]
          by_cases c : spots b f l = []
          · rw [decide_eq_true (by rw [c]; rfl)]
            refine iteT (q .non H4 ((fin _ k3).trans s4) ?_)
            have : matF a b = none := by
              unfold matF
              rw [← ma]
              unfold matL
              rw [c]
            rw [this]
            exact rfl
          · rw [decide_eq_false (by rw [List.map_eq_nil_iff]; exact c)]
            exact iteF ⟨rfl, s4, c⟩
        rintro σ H4 ⟨rfl, s4, ne⟩
        obtain ⟨s, q', es⟩ := List.exists_cons_of_ne_nil ne
        have eD4 := s4 _ _ eD
        have eM4 := s4 _ _ eM3
        rw [es] at eD4
        refine ⟨_, rfl, .inl ⟨rfl, _, SqL.of eM4⟩, _, rfl, D, _, 0, natV s, rfl, rfl, SqL.of eD4, at0, M, _, _, rfl, rfl, eM4, by rw [List.length_map, sizeLine_eq]; omega, ⟨_, _, _, rfl⟩, f ++ [s], ?_, ?_, ?_, by rw [List.length_append, fl]; rfl⟩
        · exact (k3.trans (kept_same s4)).trans kept_upd
        · rw [upd_same, List.map_append]; rfl
        · rw [← ma]
          conv => rhs; unfold matL
          rw [es]
      · rintro σ H2 ⟨st, iv⟩
        rw [al.len] at iv
        exact ⟨st, iv⟩
    rintro σ H2 ⟨⟨o3, o4, o5, rfl⟩, f, k2, eM2, ma, fl⟩
    rw [List.drop_length] at ma
    have em : matF a b = if f.length = b.length then some f else none := by unfold matF; rw [← ma]; rfl
    refine ⟨_, rfl, M, _, rfl, .inl (SqL.of eM2), _, rfl, bp, _, rfl, .inr (SqT.of (k2 _ _ eb1 nb)), rfl, _, rfl, ?_⟩
    rw [List.length_map, bl.len]
    by_cases c : f.length = b.length
    · rw [decide_eq_true (by rw [c])]
      refine iteT ⟨_, rfl, M, _, rfl, .inl ⟨SqL.of eM2, fun p kp => ?_⟩⟩
      have s6 := same_new kp (.tup (f.map natV))
      refine q _ _ ((fin _ k2).trans s6) ?_
      rw [em, if_pos c]
      exact ⟨p, rfl, upd_same⟩
    · rw [decide_eq_false fun z => c (by injection z with z; exact Int.ofNat_inj.mp z)]
      refine iteF (q _ _ (fin _ k2) ?_)
      rw [em, if_neg c]
      exact rfl
/-! ### _law_needed -/
abbrev s__law_needed : Stmt := top 47
theorem sc__law_needed : FnScope ["one", "other", "many", "lot", "first", "second"] ["one", "other"] (defScope s__law_needed) := ⟨rfl, rfl, rfl, by decide +kernel, rfl, by decide +kernel, by decide +kernel⟩
def condM (a b : Tale) (k : Nat) (l : Lot) : Bool := if k = 1 then hwB a b l else partB a b l false
def spLNeed (K : PySem.W.Frag) (T : List (Addr × Str)) : Sp := fun vs H Q _ => ∃ (v u : V) (a b : Tale), vs = [v, u] ∧ TalH H v a ∧ TalH H u b ∧ TlOk a ∧ TlOk b ∧ (namesT [a, b]).length ≤ 1000 ∧ (lotS (namesT [a, b])).length ≤ 4 ∧ Tabs T H ∧ ∀ r H', ExtN H H' → Tabs T H' → NdH H' (.ref r) (nd a b) → Q (.ref r) H'
theorem ok_lneed {f : Addr} {T : List (Addr × Str)} {fd : FuncData} (F : Fun K "_law_needed" "_law_needed" s__law_needed f fd) (C__law_sorted_lots : Cl P w K mg base "_law_sorted_lots" ["tales"] [] 4 (spSorted K T)) (C__law_heard : Cl P w K mg base "_law_heard" ["tale", "names"] [] 1 (spHeard K)) (n_len : mg "len" = none) : FnOk P w K mg base CX0 5 f fd ["one", "other"] (spLNeed K T) := by
  refine F.ok sc__law_needed (fun vs H Q E h => ?_) (fun cdv A outer s H vs Q E hr h => ?_)
  · obtain ⟨_, _, _, _, rfl, _⟩ := h
    rfl
  · obtain ⟨v, u, a, b, rfl, ha, hb, oa, ob, ln, l4, tabs, q⟩ := h
    refine ⟨_, (Evl.pss_cut (ps_if (pt_cmpR (op_eqD hr.units) (pv 0) (pv 1) (nomark _)) (pss_one (ps_ret (pe_tup (pa_cons pe_int (pa_cons pe_non pa_nil))))) pss_nil)
    (Evl.pss_cut (ps_for PassesOwn.never rfl (pi_seq (pe_tup (pa_cons pe_int (pa_cons pe_int pa_nil)))) (pg_name (i := 2) sc__law_needed.nd rfl (Or.inl rfl))
      (pss_one (ps_for PassesOwn.never rfl (pi_seq (pe_use C__law_sorted_lots (hr.mono (by decide)) rfl (pa_cons (pe_lst (pa_cons (pv 0) (pa_cons (pv 1) pa_nil))) pa_nil))) (pg_name (i := 3) sc__law_needed.nd rfl (Or.inl rfl))
      (pss_cons (ps_par (i := 4) (j := 5) (by rfl) sc__law_needed.nd rfl rfl (by decide) rfl rfl (pa_cons (pe_use C__law_heard (hr.mono (by decide)) rfl (pa_cons (pv 0) (pa_cons (pv 3) pa_nil))) (pa_cons (pe_use C__law_heard (hr.mono (by decide)) rfl (pa_cons (pv 1) (pa_cons (pv 3) pa_nil))) pa_nil)) (by rfl))
    (pss_one (ps_if (PW.pt (pw_or (PW.pt (pw_and (pt_cmpR op_eq (pv 2) pe_int (nomark _)) (pw_and1 (pt_cmpR op_ne (pe_callB call_len_seq (by rfl) n_len PySem.boot_len (pa_cons (pv 4) pa_nil)) (pe_callB call_len_seq (by rfl) n_len PySem.boot_len (pa_cons (pv 5) pa_nil)) (nomark _))))) (pw_or1 (PW.pt (pw_and (pt_cmpR op_eq (pv 2) pe_int (nomark _)) (pw_and1 (pt_cmpR (op_neD hr.units) (pv 4) (pv 5) (nomark _)))))))) (pss_one (ps_ret (pe_tup (pa_cons (pv 2) (pa_cons (pv 3) pa_nil))))) pss_nil))))))
    (pss_one (ps_ret pe_non)))), ?_⟩
    refine ⟨fun σ H' => σ = [some v, some u, none, none, none, none] ∧ Same H H' ∧ a ≠ b, ?_, ?_⟩
    · refine ⟨_, rfl, _, rfl, rd_eqT ha hb oa.nm ob.nm ⟨_, rfl, iteD (fun c => ?_) fun c => ⟨rfl, Same.refl _, c⟩⟩⟩
      refine ⟨by show 2 ≤ sizeLine; decide, fun r hr => ?_⟩
      have en : nd a b = (0, none) := by unfold nd; rw [if_pos c]
      have k := same_new hr (.tup [V.int 0, V.non])
      refine q r _ (ExtN.of k) (tabs.ext fun b o e => k b o e) ⟨r, .non, rfl, ?_, ?_⟩
      · rw [en]; exact upd_same
      · rw [en]; exact rfl
    rintro σ H1 ⟨rfl, s1, ne⟩
    refine ⟨fun σ H' => False, ?_, fun _ _ h => h.elim⟩
    refine ⟨by show 2 ≤ sizeLine; decide, fun tp ktp => ?_⟩
    have s2 := same_new ktp (.tup [V.int 1, V.int 2])
    have etp : upd H1 tp (.tup [V.int 1, V.int 2]) tp = some (.tup [V.int 1, V.int 2]) := upd_same
    generalize upd H1 tp (.tup [V.int 1, V.int 2]) = H2 at s2 etp ⊢
    have s02 := s1.trans s2
    have hN : ∀ l ∈ OL (namesT [a, b]), condM a b 1 l = hwB a b l ∧ condM a b 2 l = partB a b l false := fun l _ => ⟨rfl, rfl⟩
    refine ⟨tp, _, rfl, SqX.tup etp, fun J S W z0 => ?_⟩
    refine for_sq W (fun i σ H' => (∃ o2 o3 o4 o5, σ = [some v, some u, o2, o3, o4, o5]) ∧ ExtN H2 H' ∧ Tabs T H' ∧ ∀ k, k < i → ∀ l ∈ OL (namesT [a, b]), condM a b (k + 1) l = false) ⟨⟨_, _, _, _, rfl⟩, ExtN.refl _, tabs.ext fun b o e => s02 b o e, fun k hk => absurd hk (Nat.not_lt_zero k)⟩ (fun i σ H' pv => W.keep (fun o e => by rw [etp] at e; cases e; exact pv.2.1 _ _ etp (fun ps z => by cases z)) z0) ?_ ?_
    · rintro i σ H3 y ey ⟨⟨o2, o3, o4, o5, rfl⟩, x3, t3, all⟩
      obtain ⟨rfl, hi⟩ : y = .int ((i + 1 : Nat) : Int) ∧ i < 2 := by
        match i, ey with
        | 0, ey => cases ey; exact ⟨rfl, by decide⟩
        | 1, ey => cases ey; exact ⟨rfl, by decide⟩
      have ha3 := (ha.same s02).on (.ext x3)
      have hb3 := (hb.same s02).on (.ext x3)
      refine ⟨_, rfl, _, rfl, by show 2 ≤ sizeLine; decide, fun lp klp => ?_⟩
      have s4 := same_new klp (.lst [v, u])
      refine ⟨lp, [v, u], [a, b], rfl, upd_same, .cons (ha3.same s4) (.cons (hb3.same s4) .nil), ln, l4, t3.ext fun b o e => s4 b o e, fun r H4 x4 t4 los => ?_⟩
      obtain ⟨its, er, al⟩ := los
      have x34 := (ExtN.of s4).trans x4
      have ha4 := ha3.on (.ext x34)
      have hb4 := hb3.on (.ext x34)
      refine ⟨r, its, rfl, SqX.lst er, fun J2 S2 W2 z2 => ?_⟩
      refine for_sq W2 (fun j σ H' => (∃ o3 o4 o5, σ = [some v, some u, some (.int ((i + 1 : Nat) : Int)), o3, o4, o5]) ∧ Same H4 H' ∧ ∀ l ∈ (OL (namesT [a, b])).take j, condM a b (i + 1) l = false) ⟨⟨_, _, _, rfl⟩, Same.refl _, fun l hl => by cases hl⟩ (fun j σ H' pv => W2.keep (fun o e => pv.2.1 _ _ e) z2) ?_ ?_
      · rintro j σ H5 x ex ⟨⟨o3, o4, o5, rfl⟩, s5, none_⟩
        obtain ⟨l, el, lb, rfl, elb⟩ := al.get ex
        have elb5 := s5 _ _ elb
        refine ⟨_, rfl, _, rfl, v, lb, a, l, rfl, ha4.same s5, SqX.tup elb5, oa, fun p H6 s6 hp => ?_⟩
        refine ⟨_, rfl, _, rfl, u, lb, b, l, rfl, (hb4.same s5).same s6, SqX.tup (s6 _ _ elb5), ob, fun p2 H7 s7 hp2 => ?_⟩
        refine ⟨_, _, rfl, ?_⟩
        have hp := hp.same s7
        have s47 := (s5.trans s6).trans s7
        have elb7 := (s6.trans s7) _ _ elb5
        have fin : condM a b (i + 1) l = true → ∀ r, H7 r = none → Q (.ref r) (upd H7 r (.tup [.int ((i + 1 : Nat) : Int), .ref lb])) := fun c r kr => by
          have k := same_new kr (.tup [V.int ((i + 1 : Nat) : Int), .ref lb])
          have en : nd a b = (i + 1, some l) := by
            unfold nd
            rw [if_neg ne]
            match i, hi, c, none_, all with
            | 0, _, c, none_, all => rw [find_at (p := hwB a b) el none_ c]
            | 1, _, c, none_, all =>
              have : (OL (namesT [a, b])).find? (hwB a b) = none := List.find?_eq_none.mpr fun m hm => by
                have := all 0 (by decide) m hm
                rw [show hwB a b m = false from this]
                decide
              rw [this]
              show (2, _) = (2, _)
              rw [find_at (p := fun l => partB a b l false) el none_ c]
          refine q r _ ((ExtN.of s02).trans ((x3.trans x34).trans (ExtN.of (s47.trans k)))) (t4.ext fun b o e => (s47.trans k) b o e) ⟨r, .ref lb, rfl, ?_, ?_⟩
          · rw [en]; exact upd_same
          · rw [en]; exact ⟨lb, rfl, k _ _ elb7⟩
        have go : condM a b (i + 1) l = false → (∃ o3 o4 o5, [some v, some u, some (V.int ((i + 1 : Nat) : Int)), some (.ref lb), some (.ref p), some (.ref p2)] = [some v, some u, some (.int ((i + 1 : Nat) : Int)), o3, o4, o5]) ∧ Same H4 H7 ∧ ∀ l ∈ (OL (namesT [a, b])).take (j + 1), condM a b (i + 1) l = false := fun c => by
          refine ⟨⟨_, _, _, rfl⟩, s47, fun m hm => ?_⟩
          rw [List.take_add_one, el] at hm
          rcases List.mem_append.mp hm with z | z
          · exact none_ m z
          · rw [List.mem_singleton.mp z]; exact c
        obtain ⟨xs, e1, al1⟩ := id hp
        obtain ⟨ys, e2, al2⟩ := id hp2
        have i01 : i = 0 ∨ i = 1 := by omega
        rcases i01 with rfl | rfl
        · have eh : (!decide (V.int (xs.length : Nat) = V.int (ys.length : Nat))) = condM a b (0 + 1) l := by
            rw [al1.len, al2.len]
            show _ = hwB a b l
            unfold hwB
            congr 1
            exact decide_eq_decide.mpr ⟨fun z => by injection z with z; exact Int.ofNat_inj.mp z, fun z => by show V.int (hw a l : Nat) = _; rw [z]; rfl⟩
          refine ⟨_, rfl, rfl, _, rfl, ?_⟩
          rw [decide_eq_true (by rfl)]
          refine iteT ⟨_, rfl, p, _, rfl, .inl (SqL.of e1), _, rfl, p2, _, rfl, .inl (SqL.of e2), rfl, _, rfl, ?_⟩
          rw [eh]
          cases c : condM a b (0 + 1) l with
          | true => exact iteT (iteT ⟨_, rfl, _, rfl, by show 2 ≤ sizeLine; decide, fin c⟩)
          | false =>
            refine iteF ⟨_, rfl, rfl, _, rfl, ?_⟩
            rw [decide_eq_false (fun z => by injection z with z; cases z)]
            exact iteF (go c)
        · refine ⟨_, rfl, rfl, _, rfl, ?_⟩
          rw [decide_eq_false (fun z => by injection z with z; cases z)]
          refine iteF ⟨_, rfl, rfl, _, rfl, ?_⟩
          rw [decide_eq_true (by rfl)]
          refine iteT ⟨_, rfl, _, rfl, rd_neLos hp hp2 (oa.thin l).nm (ob.thin l).nm ⟨_, rfl, ?_⟩⟩
          rw [show (!decide (thinT l a = thinT l b)) = condM a b (1 + 1) l from rfl]
          cases c : condM a b (1 + 1) l with
          | true => exact iteT ⟨_, rfl, _, rfl, by show 2 ≤ sizeLine; decide, fin c⟩
          | false => exact iteF (go c)
      · rintro σ H5 ⟨⟨o3, o4, o5, rfl⟩, s5, none_⟩
        rw [al.len, List.take_length] at none_
        refine ⟨⟨_, _, _, _, rfl⟩, (x3.trans x34).trans (ExtN.of s5), t4.ext fun b o e => s5 b o e, fun k hk l hl => ?_⟩
        rcases Nat.lt_or_ge k i with h | h
        · exact all k h l hl
        · obtain rfl : k = i := by omega
          exact none_ l hl
    · rintro σ H3 ⟨_, _, _, all⟩
      obtain ⟨l, el⟩ := part_some oa.good ob.good ne
      have h1 := all 1 (by show 1 < 2; decide) l (List.mem_of_find?_eq_some el)
      have h2 := List.find?_some el
      rw [show partB a b l false = false from h1] at h2
      cases h2
end
end K6

namespace K6
open PySem PySem.Spec PyProof.Rows L2 Hb St Sq Ow En Zp RZ Rd Xb Da Lo Cq LamX Lc Lp Lg Sk Ty
abbrev s__law_refused_right : Stmt := top 50
theorem sc__law_refused_right : FnScope ["box", "one", "other", "wrong", "value", "more", "due", "first", "second", "work"] ["box", "one", "other"] (defScope s__law_refused_right) := ⟨rfl, rfl, rfl, by decide +kernel, rfl, by decide +kernel, by decide +kernel⟩
abbrev qRI : Str := (envOfC "_law_refused_right" (defScope s__law_refused_right) 0 0 .none).qual ++ "<lambda>"
theorem tabs_kept {T : List (Addr × Str)} {p : Addr} {H H' : Hp} (t : Tabs T H) (b : BoxAt H p) (k : Kept p H H') : Tabs T H' := fun y m => by
  obtain ⟨ps, h1, h2, h3⟩ := t y m
  obtain ⟨_, _, _, eb, _⟩ := b
  refine ⟨ps, k _ _ h1 (fun z => by rw [z, eb] at h1; cases h1), h2, fun pos cv e => ?_⟩
  obtain ⟨c, e1, e2⟩ := h3 pos cv e
  exact ⟨c, e1, k _ _ e2 (fun z => by rw [z, eb] at e2; unfold CodeO at e2; cases e2)⟩
/-- two values of which one is no tale -/
def spRefd (K : PySem.W.Frag) (C : Addr) (T : List (Addr × Str)) : Sp := fun vs H _ E => ∃ (v u : V) (d e : PyData), vs = [v, u] ∧ Two K H v u d e [] [] ∧ Tabs T H ∧ (firstNo [d, e] = none → False) ∧ ∀ k, firstNo [d, e] = some k → ∀ dd H', Same H H' → H' dd = some (errH (k : Nat)) → E (.ref C) (some dd) H'
theorem refd_N {K : PySem.W.Frag} {C : Addr} {T : List (Addr × Str)} {vs : List V} {H : Hp} {Q : VK} {E : XK} (h : spRefd K C T vs H Q E) : spNeeded K C T vs H Q E := by
  obtain ⟨v, u, d, e, rfl, tw, tb, no, r⟩ := h
  exact ⟨v, u, d, e, [], [], rfl, tw, tb, fun z => (no z).elim, r⟩
theorem refd_M {K : PySem.W.Frag} {C : Addr} {T : List (Addr × Str)} {vs : List V} {H : Hp} {Q : VK} {E : XK} (h : spRefd K C T vs H Q E) : spMat K C vs H Q E := by
  obtain ⟨v, u, d, e, rfl, tw, tb, no, r⟩ := h
  exact ⟨v, u, d, e, [], [], rfl, tw, fun z => (no z).elim, r⟩
section
variable {P : Program} {w : World} {K : PySem.W.Frag} {mg : Str → Option Value} {base : Heap}
/-! ### _law_refused_right -/
def spRefus (T : List (Addr × Str)) : Sp := fun vs H Q _ => ∃ (p oa ob : Addr) (t1 t2 : Tale) (ns : List Str), vs = [.ref p, .ref oa, .ref ob] ∧ BoxAt H p ∧ Tabs T H ∧ TalH H (.ref oa) t1 ∧ TalH H (.ref ob) t2 ∧ NsOk ns ∧ TlIn ns t1 ∧ TlIn ns t2 ∧ t1.length ≤ 10 ∧ t2.length ≤ 10 ∧ ∀ H', KpX p H H' → Tabs T H' → Q (.bl true) H'
theorem ok_refus {f c Pt C fC f1 f2 g : Addr} {T : List (Addr × Str)} {fdg : FuncData} {oc : Value} {od an : Option Addr} {osl : Array (Option Value)} {kV doc pm ct : Value}
    (lk : K.lookup f = some ⟨oc, od, .func (PySem.W.fnOf "_law_refused_right" "_law_refused_right" (defArgs s__law_refused_right) (defBody s__law_refused_right) (defScope s__law_refused_right) .none kV doc pm an (.ref c) ct), osl⟩) (cd : PySem.W.codeIn K (.ref c) "_law_refused_right" = true) (TB : TabB base mg c Pt)
    (inT : (Pt, qRI) ∈ T) (one : ∀ y ∈ T, y.1 = Pt → y.2 = qRI)
    (Fg : Fun K "_law_at" "_law_at" s__law_at g fdg) (bg0 : Binds K fdg ["work"] []) (mat : mg "_law_at" = some (.ref g)) (Te : ErrC K mg "InvalidHeard" C fC)
    (g1 : mg "tones_needed" = some (.ref f1)) (g2 : mg "lots_matched" = some (.ref f2)) (V1 : ∀ H, Cq.CallV P w K mg base 8 (spRefd K C T) H f1) (V2 : ∀ H, Cq.CallV P w K mg base 8 (spRefd K C T) H f2)
    (C__law_pick : Cl P w K mg base "_law_pick" ["box", "some"] [] 2 (spPick K)) (n_list : mg "list" = none) (n_repr : mg "repr" = none) :
    FnOk P w K mg base CX0 11 f (PySem.W.fnOf "_law_refused_right" "_law_refused_right" (defArgs s__law_refused_right) (defBody s__law_refused_right) (defScope s__law_refused_right) .none kV doc pm an (.ref c) ct) ["box", "one", "other"] (spRefus T) := by
  obtain ⟨⟨ocg, odg, kVg, docg, pmg, ang, cdvg, ctg, oslg, rfl, lkg, cdg'⟩, kpg⟩ := Fg
  have bg := bg0
  refine okC lk cd sc__law_refused_right (fun vs H Q E h => ?_) (fun A outer s H vs Q E hr h => ?_)
  · obtain ⟨_, _, _, _, _, _, rfl, _⟩ := h
    rfl
  · obtain ⟨p, oa, ob, t1, t2, ns, rfl, hb, tabs, ⟨_, its, ev1, eo, al⟩, ⟨_, jts, ev2, eu, bl⟩, nok, in1, in2, l1, l2, q⟩ := h
    cases ev1
    cases ev2
    refine ⟨_, (pss_cons (ps_set (i := 3) sc__law_refused_right.nd rfl (Or.inl rfl) (pe_lst (pa_cons pe_non (pa_cons pe_int (pa_cons pe_str (pa_cons (pe_callTy call_list_of (by rfl) n_list (by decide +kernel) (pa_cons (pv 1) pa_nil)) (pa_cons (pe_tup (pa_cons (pe_tup (pa_cons pe_str (pa_cons pe_str pa_nil))) pa_nil)) (pa_cons (pe_tup (pa_cons (pe_tup pa_nil) pa_nil)) (pa_cons (pe_tup (pa_cons (pe_tup (pa_cons pe_str (pa_cons pe_str pa_nil))) pa_nil)) (pa_cons (pe_tup (pa_cons pe_str pa_nil)) (pa_cons (pe_tup (pa_cons (pe_tup (pa_cons pe_str pa_nil)) pa_nil)) (pa_cons (pe_tup (pa_cons (pe_tup (pa_cons pe_str pa_nil)) pa_nil)) (pa_cons (pe_tup (pa_cons (pe_tup (pa_cons pe_str (pa_cons pe_int pa_nil))) pa_nil)) pa_nil)))))))))))))
    (pss_cons (ps_par (i := 4) (j := 5) (by rfl) sc__law_refused_right.nd rfl rfl (by decide) rfl rfl (pa_cons (pe_use C__law_pick (hr.mono (by decide)) rfl (pa_cons (pv 0) (pa_cons (pv 3) pa_nil))) (pa_cons (pe_op op_catA (pv 1) (pe_tup (pa_cons (pe_use C__law_pick (hr.mono (by decide)) rfl (pa_cons (pv 0) (pa_cons (pe_lst (pa_cons (pe_tup pa_nil) (pa_cons pe_str (pa_cons (pe_lst (pa_cons pe_str pa_nil)) (pa_cons (pe_tup (pa_cons pe_str (pa_cons pe_str pa_nil))) (pa_cons pe_non pa_nil)))))) pa_nil))) pa_nil))) pa_nil)) (by rfl))
    (Evl.pss_cut (ps_for PassesOwn.never rfl (pi_seq (pe_tup (pa_cons (pe_glob (v := .ref f1) (by rfl) g1 rfl) (pa_cons (pe_glob (v := .ref f2) (by rfl) g2 rfl) pa_nil)))) (pg_name (i := 9) sc__law_refused_right.nd rfl (Or.inr rfl))
      (pss_one (ps_for PassesOwn.never rfl (pi_seq (pe_tup (pa_cons (pe_tup (pa_cons (pv 4) (pa_cons (pv 2) (pa_cons pe_str pa_nil)))) (pa_cons (pe_tup (pa_cons (pv 1) (pa_cons (pv 4) (pa_cons pe_str pa_nil)))) (pa_cons (pe_tup (pa_cons (pv 5) (pa_cons (pv 4) (pa_cons pe_str pa_nil)))) (pa_cons (pe_tup (pa_cons (pv 1) (pa_cons (pv 5) (pa_cons pe_str pa_nil)))) pa_nil)))))) (pg_tup rfl (pgs_cons (pg_name (i := 7) sc__law_refused_right.nd rfl (Or.inr rfl)) (pgs_cons (pg_name (i := 8) sc__law_refused_right.nd rfl (Or.inr rfl)) (pgs_cons (pg_name (i := 6) sc__law_refused_right.nd rfl (Or.inl rfl)) pgs_nil))))
      (pss_one (ps_if (pt_cmpR op_ne (pe_callB Ty.cr_reprN (by rfl) n_repr (by decide +kernel) (pa_cons (pe_lamcall (T := T) (t := fun E => Cq.tVarV P w K mg base 8 9 (spRefd K C T) (fun _ => E) (tCons (tVar 7) (tCons (tVar 8) tNil))) (TT := TAt C) (k := 8) (a := "work") (Ng := ["work", "found", "e"]) rfl mat kpg lkg cdg' bg sc__law_at rfl (.inl rfl) (law_at_gives Te) TB rfl inT one (hr.mono (by decide)) (lamS_by rfl) rfl (fun _ _ _ _ _ => rfl) (fun A outer s H E f c' hr2 => Cq.pe_varV (lv := 8) (i := 9) (sp := spRefd K C T) (E := fun _ => E) rfl (.inr (.inr rfl)) hr2 (fun σ => passAt (takes_of rfl rfl rfl rfl) σ) (pa_cons (pv 7) (pa_cons (pv 8) pa_nil)))) pa_nil)) (pv 6) (nomark _)) (pss_one (ps_ret pe_bl)) pss_nil)))))
    (pss_one (ps_ret pe_bl))))), ?_⟩
    refine ⟨_, rfl, oa, its, rfl, .inr (SqT.of eo), fun a1 ka1 => ?_⟩
    have s1 := same_new ka1 (.lst its)
    have e1 : upd H a1 (.lst its) a1 = some (.lst its) := upd_same
    generalize upd H a1 (.lst its) = H1 at s1 e1 ⊢
    refine ⟨by show 2 ≤ sizeLine; decide, fun a2 ka2 => ?_⟩
    have s2 := same_new ka2 (.tup [V.str (Str.ofString "y"), .str (Str.ofString "x")])
    have e2 : upd H1 a2 (.tup [V.str (Str.ofString "y"), .str (Str.ofString "x")]) a2 = some (.tup [V.str (Str.ofString "y"), .str (Str.ofString "x")]) := upd_same
    generalize upd H1 a2 (.tup [V.str (Str.ofString "y"), .str (Str.ofString "x")]) = H2 at s2 e2 ⊢
    refine ⟨by show 1 ≤ sizeLine; decide, fun a3 ka3 => ?_⟩
    have s3 := same_new ka3 (.tup [V.ref a2])
    have e3 : upd H2 a3 (.tup [V.ref a2]) a3 = some (.tup [V.ref a2]) := upd_same
    generalize upd H2 a3 (.tup [V.ref a2]) = H3 at s3 e3 ⊢
    refine ⟨by show 0 ≤ sizeLine; decide, fun a4 ka4 => ?_⟩
    have s4 := same_new ka4 (.tup [])
    have e4 : upd H3 a4 (.tup []) a4 = some (.tup []) := upd_same
    generalize upd H3 a4 (.tup []) = H4 at s4 e4 ⊢
    refine ⟨by show 1 ≤ sizeLine; decide, fun a5 ka5 => ?_⟩
    have s5 := same_new ka5 (.tup [V.ref a4])
    have e5 : upd H4 a5 (.tup [V.ref a4]) a5 = some (.tup [V.ref a4]) := upd_same
    generalize upd H4 a5 (.tup [V.ref a4]) = H5 at s5 e5 ⊢
    refine ⟨by show 2 ≤ sizeLine; decide, fun a6 ka6 => ?_⟩
    have s6 := same_new ka6 (.tup [V.str (Str.ofString "x"), .str (Str.ofString "x")])
    have e6 : upd H5 a6 (.tup [V.str (Str.ofString "x"), .str (Str.ofString "x")]) a6 = some (.tup [V.str (Str.ofString "x"), .str (Str.ofString "x")]) := upd_same
    generalize upd H5 a6 (.tup [V.str (Str.ofString "x"), .str (Str.ofString "x")]) = H6 at s6 e6 ⊢
    refine ⟨by show 1 ≤ sizeLine; decide, fun a7 ka7 => ?_⟩
    have s7 := same_new ka7 (.tup [V.ref a6])
    have e7 : upd H6 a7 (.tup [V.ref a6]) a7 = some (.tup [V.ref a6]) := upd_same
    generalize upd H6 a7 (.tup [V.ref a6]) = H7 at s7 e7 ⊢
    refine ⟨by show 1 ≤ sizeLine; decide, fun a8 ka8 => ?_⟩
    have s8 := same_new ka8 (.tup [V.str (Str.ofString "x")])
    have e8 : upd H7 a8 (.tup [V.str (Str.ofString "x")]) a8 = some (.tup [V.str (Str.ofString "x")]) := upd_same
    generalize upd H7 a8 (.tup [V.str (Str.ofString "x")]) = H8 at s8 e8 ⊢
    refine ⟨by show 1 ≤ sizeLine; decide, fun a9 ka9 => ?_⟩
    have s9 := same_new ka9 (.tup [V.str (Str.ofString "X")])
    have e9 : upd H8 a9 (.tup [V.str (Str.ofString "X")]) a9 = some (.tup [V.str (Str.ofString "X")]) := upd_same
    generalize upd H8 a9 (.tup [V.str (Str.ofString "X")]) = H9 at s9 e9 ⊢
    refine ⟨by show 1 ≤ sizeLine; decide, fun a10 ka10 => ?_⟩
    have s10 := same_new ka10 (.tup [V.ref a9])
    have e10 : upd H9 a10 (.tup [V.ref a9]) a10 = some (.tup [V.ref a9]) := upd_same
    generalize upd H9 a10 (.tup [V.ref a9]) = H10 at s10 e10 ⊢
    refine ⟨by show 1 ≤ sizeLine; decide, fun a11 ka11 => ?_⟩
    have s11 := same_new ka11 (.tup [V.str (Str.ofString "abcdefghi")])
    have e11 : upd H10 a11 (.tup [V.str (Str.ofString "abcdefghi")]) a11 = some (.tup [V.str (Str.ofString "abcdefghi")]) := upd_same
    generalize upd H10 a11 (.tup [V.str (Str.ofString "abcdefghi")]) = H11 at s11 e11 ⊢
    refine ⟨by show 1 ≤ sizeLine; decide, fun a12 ka12 => ?_⟩
    have s12 := same_new ka12 (.tup [V.ref a11])
    have e12 : upd H11 a12 (.tup [V.ref a11]) a12 = some (.tup [V.ref a11]) := upd_same
    generalize upd H11 a12 (.tup [V.ref a11]) = H12 at s12 e12 ⊢
    refine ⟨by show 2 ≤ sizeLine; decide, fun a13 ka13 => ?_⟩
    have s13 := same_new ka13 (.tup [V.str (Str.ofString "x"), .int 1])
    have e13 : upd H12 a13 (.tup [V.str (Str.ofString "x"), .int 1]) a13 = some (.tup [V.str (Str.ofString "x"), .int 1]) := upd_same
    generalize upd H12 a13 (.tup [V.str (Str.ofString "x"), .int 1]) = H13 at s13 e13 ⊢
    refine ⟨by show 1 ≤ sizeLine; decide, fun a14 ka14 => ?_⟩
    have s14 := same_new ka14 (.tup [V.ref a13])
    have e14 : upd H13 a14 (.tup [V.ref a13]) a14 = some (.tup [V.ref a13]) := upd_same
    generalize upd H13 a14 (.tup [V.ref a13]) = H14 at s14 e14 ⊢
    refine ⟨by show 11 ≤ sizeLine; decide, fun a15 ka15 => ?_⟩
    have s15 := same_new ka15 (.lst [V.non, .int 0, .str (Str.ofString "x"), .ref a1, .ref a3, .ref a5, .ref a7, .ref a8, .ref a10, .ref a12, .ref a14])
    have e15 : upd H14 a15 (.lst [V.non, .int 0, .str (Str.ofString "x"), .ref a1, .ref a3, .ref a5, .ref a7, .ref a8, .ref a10, .ref a12, .ref a14]) a15 = some (.lst [V.non, .int 0, .str (Str.ofString "x"), .ref a1, .ref a3, .ref a5, .ref a7, .ref a8, .ref a10, .ref a12, .ref a14]) := upd_same
    generalize upd H14 a15 (.lst [V.non, .int 0, .str (Str.ofString "x"), .ref a1, .ref a3, .ref a5, .ref a7, .ref a8, .ref a10, .ref a12, .ref a14]) = H15 at s15 e15 ⊢
    have bw : BoxAt H15 p := hb.same (s1.trans (((((((((((((s2.trans s3).trans s4).trans s5).trans s6).trans s7).trans s8).trans s9).trans s10).trans s11).trans s12).trans s13).trans s14).trans s15))
    have s0w : Same H H15 := s1.trans (((((((((((((s2.trans s3).trans s4).trans s5).trans s6).trans s7).trans s8).trans s9).trans s10).trans s11).trans s12).trans s13).trans s14).trans s15)
    have alw := al.imp fun _ _ r => r.same s0w
    have nw : a15 ≠ p := fun z => by obtain ⟨_, _, _, e, _⟩ := bw; rw [← z, e15] at e; cases e
    have n1 : a1 ≠ p := fun z => by obtain ⟨_, _, _, e, _⟩ := hb; rw [← z, ka1] at e; cases e
    have bads : ∀ v ∈ [V.non, .int 0, .str (Str.ofString "x"), .ref a1, .ref a3, .ref a5, .ref a7, .ref a8, .ref a10, .ref a12, .ref a14], ∃ d, Nd K p H15 v d ∧ BadOk d := fun v hv => by
      simp only [List.mem_cons, List.not_mem_nil, or_false] at hv
      rcases hv with rfl | rfl | rfl | rfl | rfl | rfl | rfl | rfl | rfl | rfl | rfl
      · exact ⟨_, nd_non, bad_by (by decide +kernel)⟩
      · exact ⟨_, nd_int _, bad_by (by decide +kernel)⟩
      · exact ⟨_, nd_str _, bad_by (by decide +kernel)⟩
      · exact ⟨_, .lst ((((((((((((((s2.trans s3).trans s4).trans s5).trans s6).trans s7).trans s8).trans s9).trans s10).trans s11).trans s12).trans s13).trans s14).trans s15) _ _ e1) n1 (nd_lots bw alw), bad_list _⟩
      · exact ⟨_, .tup ((((((((((((s4.trans s5).trans s6).trans s7).trans s8).trans s9).trans s10).trans s11).trans s12).trans s13).trans s14).trans s15) _ _ e3) bw (.cons (.tup (((((((((((((s3.trans s4).trans s5).trans s6).trans s7).trans s8).trans s9).trans s10).trans s11).trans s12).trans s13).trans s14).trans s15) _ _ e2) bw (.cons (nd_str _) (.cons (nd_str _) .nil))) .nil), bad_by (by decide +kernel)⟩
      · exact ⟨_, .tup ((((((((((s6.trans s7).trans s8).trans s9).trans s10).trans s11).trans s12).trans s13).trans s14).trans s15) _ _ e5) bw (.cons (.tup (((((((((((s5.trans s6).trans s7).trans s8).trans s9).trans s10).trans s11).trans s12).trans s13).trans s14).trans s15) _ _ e4) bw .nil) .nil), bad_by (by decide +kernel)⟩
      · exact ⟨_, .tup ((((((((s8.trans s9).trans s10).trans s11).trans s12).trans s13).trans s14).trans s15) _ _ e7) bw (.cons (.tup (((((((((s7.trans s8).trans s9).trans s10).trans s11).trans s12).trans s13).trans s14).trans s15) _ _ e6) bw (.cons (nd_str _) (.cons (nd_str _) .nil))) .nil), bad_by (by decide +kernel)⟩
      · exact ⟨_, .tup (((((((s9.trans s10).trans s11).trans s12).trans s13).trans s14).trans s15) _ _ e8) bw (.cons (nd_str _) .nil), bad_by (by decide +kernel)⟩
      · exact ⟨_, .tup (((((s11.trans s12).trans s13).trans s14).trans s15) _ _ e10) bw (.cons (.tup ((((((s10.trans s11).trans s12).trans s13).trans s14).trans s15) _ _ e9) bw (.cons (nd_str _) .nil)) .nil), bad_by (by decide +kernel)⟩
      · exact ⟨_, .tup (((s13.trans s14).trans s15) _ _ e12) bw (.cons (.tup ((((s12.trans s13).trans s14).trans s15) _ _ e11) bw (.cons (nd_str _) .nil)) .nil), bad_by (by decide +kernel)⟩
      · exact ⟨_, .tup (s15 _ _ e14) bw (.cons (.tup ((s14.trans s15) _ _ e13) bw (.cons (nd_str _) (.cons (nd_int _) .nil))) .nil), bad_by (by decide +kernel)⟩
    clear ka1 ka2 ka3 ka4 ka5 ka6 ka7 ka8 ka9 ka10 ka11 ka12 ka13 ka14 ka15
    refine ⟨_, rfl, _, rfl, p, a15, _, rfl, bw, e15, nw, ⟨by show 1 ≤ 11; decide, by show 11 ≤ 1000; decide⟩, fun value G0 hval k0 b0 => ?_⟩
    obtain ⟨dv, ndv, bdv⟩ := bads value hval
    have kz0 : Kept p H G0 := (kept_same s0w).trans k0
    have ndv0 := ndv.on (KpX.kept k0)
    clear bads hval ndv alw k0 bw s0w n1 nw e1 s1 e2 s2 e3 s3 e4 s4 e5 s5 e6 s6 e7 s7 e8 s8 e9 s9 e10 s10 e11 s11 e12 s12 e13 s13 e14 s14 e15 s15
    refine ⟨_, rfl, _, rfl, ?_⟩
    refine ⟨by show 0 ≤ sizeLine; decide, fun b1 kb1 => ?_⟩
    have s1 := same_new kb1 (.tup [])
    have e1 : upd G0 b1 (.tup []) b1 = some (.tup []) := upd_same
    generalize upd G0 b1 (.tup []) = G1 at s1 e1 ⊢
    refine ⟨by show 1 ≤ sizeLine; decide, fun b2 kb2 => ?_⟩
    have s2 := same_new kb2 (.lst [V.str (Str.ofString "x")])
    have e2 : upd G1 b2 (.lst [V.str (Str.ofString "x")]) b2 = some (.lst [V.str (Str.ofString "x")]) := upd_same
    generalize upd G1 b2 (.lst [V.str (Str.ofString "x")]) = G2 at s2 e2 ⊢
    refine ⟨by show 2 ≤ sizeLine; decide, fun b3 kb3 => ?_⟩
    have s3 := same_new kb3 (.tup [V.str (Str.ofString "b"), .str (Str.ofString "a")])
    have e3 : upd G2 b3 (.tup [V.str (Str.ofString "b"), .str (Str.ofString "a")]) b3 = some (.tup [V.str (Str.ofString "b"), .str (Str.ofString "a")]) := upd_same
    generalize upd G2 b3 (.tup [V.str (Str.ofString "b"), .str (Str.ofString "a")]) = G3 at s3 e3 ⊢
    refine ⟨by show 5 ≤ sizeLine; decide, fun b4 kb4 => ?_⟩
    have s4 := same_new kb4 (.lst [V.ref b1, .str (Str.ofString "x"), .ref b2, .ref b3, .non])
    have e4 : upd G3 b4 (.lst [V.ref b1, .str (Str.ofString "x"), .ref b2, .ref b3, .non]) b4 = some (.lst [V.ref b1, .str (Str.ofString "x"), .ref b2, .ref b3, .non]) := upd_same
    generalize upd G3 b4 (.lst [V.ref b1, .str (Str.ofString "x"), .ref b2, .ref b3, .non]) = G4 at s4 e4 ⊢
    have b4' : BoxAt G4 p := b0.same (((s1.trans s2).trans s3).trans s4)
    have n4 : b4 ≠ p := fun z => by obtain ⟨_, _, _, e, _⟩ := b4'; rw [← z, e4] at e; cases e
    have n2 : b2 ≠ p := fun z => by obtain ⟨_, _, _, e, _⟩ := b4'; rw [← z, (s3.trans s4) _ _ e2] at e; cases e
    have badl : ∀ v ∈ [V.ref b1, .str (Str.ofString "x"), .ref b2, .ref b3, .non], ∃ d, Nd K p G4 v d ∧ BadLot d := fun v hv => by
      simp only [List.mem_cons, List.not_mem_nil, or_false] at hv
      rcases hv with rfl | rfl | rfl | rfl | rfl
      · exact ⟨_, .tup (((s2.trans s3).trans s4) _ _ e1) b4' .nil, badl_by (by decide +kernel)⟩
      · exact ⟨_, nd_str _, badl_by (by decide +kernel)⟩
      · exact ⟨_, .lst ((s3.trans s4) _ _ e2) n2 (.cons (nd_str _) .nil), badl_by (by decide +kernel)⟩
      · exact ⟨_, .tup (s4 _ _ e3) b4' (.cons (nd_str _) (.cons (nd_str _) .nil)), badl_by (by decide +kernel)⟩
      · exact ⟨_, nd_non, badl_by (by decide +kernel)⟩
    refine ⟨p, b4, _, rfl, b4', e4, n4, ⟨by show 1 ≤ 5; decide, by show 5 ≤ 1000; decide⟩, fun lotv G5 hlot k5 b5 => ⟨by show 1 ≤ sizeLine; decide, fun tl ktl => ?_⟩⟩
    obtain ⟨dl, ndl, bdl⟩ := badl lotv hlot
    have k45 : Kept p H G5 := (kz0.sm (((s1.trans s2).trans s3).trans s4)).trans k5
    have ndv5 := (ndv0.on (KpX.same (((s1.trans s2).trans s3).trans s4))).on (KpX.kept k5)
    have ndl5 := ndl.on (KpX.kept k5)
    have s6 := same_new ktl (.tup [lotv])
    have e6 : upd G5 tl (.tup [lotv]) tl = some (.tup [lotv]) := upd_same
    generalize upd G5 tl (.tup [lotv]) = G6 at s6 e6 ⊢
    have np : ∀ {b : Addr} {xs : List V}, H b = some (.tup xs) → b ≠ p := fun e => hb.neT e
    have eo6 : G6 oa = some (.tup its) := s6 _ _ (k45 _ _ eo (np eo))
    refine rd_catT eo6 e6 (by have := al.len; show _ + 1 ≤ _; omega) fun mp G7 s7 e7 => ?_
    have kz : Kept p H G7 := k45.sm (s6.trans s7)
    have b7 : BoxAt G7 p := b5.same (s6.trans s7)
    have al7 := al.imp fun _ _ r => r.kept hb kz
    have bl7 := bl.imp fun _ _ r => r.kept hb kz
    have ndv7 := ndv5.on (KpX.same (s6.trans s7))
    have ndl7 := ndl5.on (KpX.same (s6.trans s7))
    have ndm7 : Nd K p G7 (.ref mp) (.tuple (t1.map lD ++ [dl])) := .tup e7 b7 ((nd_lots b7 al7).app (.cons ndl7 .nil))
    have bdm := bad_more nok in1 (by omega) bdl
    have ndo7 : Nd K p G7 (.ref oa) (tD t1) := .tup (kz _ _ eo (np eo)) b7 (nd_lots b7 al7)
    have ndu7 : Nd K p G7 (.ref ob) (tD t2) := .tup (kz _ _ eu (np eu)) b7 (nd_lots b7 bl7)
    have tb7 : Tabs T G7 := tabs_kept tabs hb kz
    refine ⟨_, _, rfl, ?_⟩
    clear s7 e7 eo6 e6 s6 ktl ndl7 ndl5 ndl badl hlot n2 n4 b4' e4 s4 e3 s3 e2 s2 e1 s1 kb1 kb2 kb3 kb4 k45 k5 ndv0 ndv5 kz0 b0 b5 al7 bl7 b7
    have tr : ∀ x y due, (x, y, due) ∈ [(value, V.ref ob, Str.ofString "0"), (.ref oa, value, Str.ofString "1"), (.ref mp, value, Str.ofString "0"), (.ref oa, .ref mp, Str.ofString "1")] → ∃ d e k, Nd K p G7 x d ∧ Nd K p G7 y e ∧ Sm2 d ∧ Sm2 e ∧ firstNo [d, e] = some k ∧ due = reprN (some ((k : Nat) : Int)) ∧ k ≤ 1 := fun x y due m => by
      have taL := tale_D nok in1
      have smL := tale_sm nok in1 (by omega)
      have smR := tale_sm nok in2 (by omega)
      simp only [List.mem_cons, List.not_mem_nil, or_false, Prod.mk.injEq] at m
      rcases m with ⟨rfl, rfl, rfl⟩ | ⟨rfl, rfl, rfl⟩ | ⟨rfl, rfl, rfl⟩ | ⟨rfl, rfl, rfl⟩
      · exact ⟨_, _, 0, ndv7, ndu7, bdv.s2, smR, first_0 bdv.nt, rfl, by decide⟩
      · exact ⟨_, _, 1, ndo7, ndv7, smL, bdv.s2, first_1 taL bdv.nt, rfl, by decide⟩
      · exact ⟨_, _, 0, ndm7, ndv7, bdm.s2, bdv.s2, first_0 bdm.nt, rfl, by decide⟩
      · exact ⟨_, _, 1, ndo7, ndm7, smL, bdm.s2, first_1 taL bdm.nt, rfl, by decide⟩
    let σ0 : Option V → Option V → Option V → Option V → L2.St := fun o6 o7 o8 o9 => [some (.ref p), some (.ref oa), some (.ref ob), some (.ref a15), some value, some (.ref mp), o6, o7, o8, o9]
    refine ⟨fun σ H' => KpX p H H' ∧ Tabs T H', ?_, fun σ H' k => q H' k.1 k.2⟩
    refine ⟨by show 2 ≤ sizeLine; decide, fun tp ktp => ⟨tp, _, rfl, SqX.tup upd_same, fun J S W z0 => ?_⟩⟩
    have st := same_new ktp (.tup [V.ref f1, .ref f2])
    have etp : upd G7 tp (.tup [V.ref f1, .ref f2]) tp = some (.tup [V.ref f1, .ref f2]) := upd_same
    generalize upd G7 tp (.tup [V.ref f1, .ref f2]) = G10 at st etp z0 ⊢
    have xz : ExtN G7 G10 := ExtN.of st
    have tb10 : Tabs T G10 := tb7.ext st
    refine for_sq W (fun k σ H' => (∃ o6 o7 o8 o9, σ = σ0 o6 o7 o8 o9) ∧ ExtN G10 H' ∧ Tabs T H') ⟨⟨none, none, none, none, rfl⟩, ExtN.refl _, tb10⟩ (fun k σ H' pv => W.keep (fun o e => by rw [etp] at e; cases e; exact pv.2.1 _ _ etp notbl) z0) ?_ (fun _ H' pv => ⟨(KpX.kept kz).trans (KpX.ext (xz.trans pv.2.1)), pv.2.2⟩)
    rintro k σ H0 x ex ⟨⟨o6, o7, o8, o9, rfl⟩, x0, tb⟩
    obtain ⟨fj, rfl, cv2⟩ : ∃ fj, x = .ref fj ∧ Cq.CallV P w K mg base 8 (spRefd K C T) G10 fj := by
      match k, ex with
      | 0, ex => cases ex; exact ⟨f1, rfl, V1 _⟩
      | 1, ex => cases ex; exact ⟨f2, rfl, V2 _⟩
    have cv : ∀ {H'}, ExtN G10 H' → Cq.CallV P w K mg base 8 (spRefd K C T) H' fj := fun e => cv2.keep fun b φ h => e _ _ h (fun ps z => by cases z)
    clear cv2 ex
    refine ⟨_, rfl, _, rfl, by show 3 ≤ sizeLine; decide, fun u1 ku1 => ?_⟩
    have v1 := same_new ku1 (.tup [value, V.ref ob, .str (Str.ofString "0")])
    have w1 : upd H0 u1 (.tup [value, V.ref ob, .str (Str.ofString "0")]) u1 = some (.tup [value, V.ref ob, .str (Str.ofString "0")]) := upd_same
    generalize upd H0 u1 (.tup [value, V.ref ob, .str (Str.ofString "0")]) = M1 at v1 w1 ⊢
    refine ⟨_, rfl, _, rfl, by show 3 ≤ sizeLine; decide, fun u2 ku2 => ?_⟩
    have v2 := same_new ku2 (.tup [V.ref oa, value, .str (Str.ofString "1")])
    have w2 : upd M1 u2 (.tup [V.ref oa, value, .str (Str.ofString "1")]) u2 = some (.tup [V.ref oa, value, .str (Str.ofString "1")]) := upd_same
    generalize upd M1 u2 (.tup [V.ref oa, value, .str (Str.ofString "1")]) = M2 at v2 w2 ⊢
    refine ⟨_, rfl, _, rfl, by show 3 ≤ sizeLine; decide, fun u3 ku3 => ?_⟩
    have v3 := same_new ku3 (.tup [V.ref mp, value, .str (Str.ofString "0")])
    have w3 : upd M2 u3 (.tup [V.ref mp, value, .str (Str.ofString "0")]) u3 = some (.tup [V.ref mp, value, .str (Str.ofString "0")]) := upd_same
    generalize upd M2 u3 (.tup [V.ref mp, value, .str (Str.ofString "0")]) = M3 at v3 w3 ⊢
    refine ⟨_, rfl, _, rfl, by show 3 ≤ sizeLine; decide, fun u4 ku4 => ?_⟩
    have v4 := same_new ku4 (.tup [V.ref oa, .ref mp, .str (Str.ofString "1")])
    have w4 : upd M3 u4 (.tup [V.ref oa, .ref mp, .str (Str.ofString "1")]) u4 = some (.tup [V.ref oa, .ref mp, .str (Str.ofString "1")]) := upd_same
    generalize upd M3 u4 (.tup [V.ref oa, .ref mp, .str (Str.ofString "1")]) = M4 at v4 w4 ⊢
    refine ⟨by show 4 ≤ sizeLine; decide, fun tq ktq => ⟨tq, _, rfl, SqX.tup upd_same, fun J2 S2 W2 z2 => ?_⟩⟩
    have v5 := same_new ktq (.tup [V.ref u1, .ref u2, .ref u3, .ref u4])
    have w5 : upd M4 tq (.tup [V.ref u1, .ref u2, .ref u3, .ref u4]) tq = some (.tup [V.ref u1, .ref u2, .ref u3, .ref u4]) := upd_same
    generalize upd M4 tq (.tup [V.ref u1, .ref u2, .ref u3, .ref u4]) = M5 at v5 w5 z2 ⊢
    have v05 := (((v1.trans v2).trans v3).trans v4).trans v5
    have x5 : ExtN G10 M5 := x0.trans (ExtN.of v05)
    have el : ∀ (j : Nat) y, [V.ref u1, .ref u2, .ref u3, .ref u4][j]? = some y → ∃ u x z due, y = .ref u ∧ M5 u = some (.tup [x, z, .str due]) ∧ (x, z, due) ∈ [(value, V.ref ob, Str.ofString "0"), (.ref oa, value, Str.ofString "1"), (.ref mp, value, Str.ofString "0"), (.ref oa, .ref mp, Str.ofString "1")] := fun j y ey => by
      match j, ey with
      | 0, ey => cases ey; exact ⟨u1, _, _, _, rfl, (((v2.trans v3).trans v4).trans v5) _ _ w1, by simp⟩
      | 1, ey => cases ey; exact ⟨u2, _, _, _, rfl, ((v3.trans v4).trans v5) _ _ w2, by simp⟩
      | 2, ey => cases ey; exact ⟨u3, _, _, _, rfl, (v4.trans v5) _ _ w3, by simp⟩
      | 3, ey => cases ey; exact ⟨u4, _, _, _, rfl, v5 _ _ w4, by simp⟩
    refine for_sq W2 (fun j σ H' => (∃ o6 o7 o8, σ = σ0 o6 o7 o8 (some (.ref fj))) ∧ ExtN M5 H' ∧ Tabs T H') ⟨⟨o6, o7, o8, rfl⟩, ExtN.refl _, tb.ext v05⟩ (fun k σ H' pv => W2.keep (fun o e => by rw [w5] at e; cases e; exact pv.2.1 _ _ w5 notbl) z2) ?_ (fun σ H' pv => ⟨let ⟨o6, o7, o8, e⟩ := pv.1; ⟨o6, o7, o8, _, e⟩, x5.trans pv.2.1, pv.2.2⟩)
    rintro j σ N0 y ey ⟨⟨o6', o7', o8', rfl⟩, y0, tbj⟩
    obtain ⟨u, x, z, due, rfl, eu', mem⟩ := el j y ey
    obtain ⟨d, e, kk, ndx, ndz, smd, sme, fst, edue, k1⟩ := tr x z due mem
    refine ⟨u, _, rfl, SqT.of (y0 _ _ eu' notbl), rfl, _, _, rfl, _, _, rfl, _, _, rfl, rfl, ?_⟩
    refine ⟨tbj, fun N1 x3 tb3 R hR => ?_⟩
    have xg : ExtN G10 N1 := (x5.trans y0).trans x3
    refine ⟨fj, rfl, cv xg, _, rfl, _, rfl, cv xg, x, z, d, e, rfl, ⟨ndx _ (KpX.ext (xz.trans xg)), ndz _ (KpX.ext (xz.trans xg)), smd, sme, fun z => (by rw [fst] at z; cases z), by decide, by decide⟩, tb3, fun z => (by rw [fst] at z; cases z), fun k' hk dd N2 s2 ed => ?_⟩
    rw [fst] at hk
    cases hk
    refine ⟨dd, _, rfl, ed, rfl, some ((kk : Nat) : Int), rfl, fun k' hk => ?_, _, rfl, ?_⟩
    · cases hk
      have : kk = 0 ∨ kk = 1 := by omega
      rcases this with rfl | rfl <;> decide
    · subst edue
      refine ⟨rfl, _, rfl, ?_⟩
      rw [show (decide (V.str (reprN (some ((kk : Nat) : Int))) = V.str (reprN (some ((kk : Nat) : Int))))) = true from decide_eq_true rfl]
      exact iteF ⟨⟨_, _, _, rfl⟩, (y0.trans x3).trans (ExtN.of s2), tb3.ext s2⟩
end
end K6

/-! promises of defs that are called while no repr is under way: the same calculus, one thing more known of what runs around -/
namespace Gu
open PySem PySem.Spec PyProof.Rows L2
abbrev Free (A : Around) : Prop := A.guards = some []
/-- the def at f keeps its promise wherever nothing is being shown -/
structure FnG (P : Program) (w : World) (K : PySem.W.Frag) (mg : Str → Option Value) (base : Heap) (CX : CXT) (k : Nat) (f : Addr) (fd : FuncData) (ps : List Str) (sp : Sp) : Prop where
  many : ∀ vs H Q E, sp vs H Q E → vs.length = ps.length
  go : ∀ (A : Around) (outer : List Env) (s : Shared) (H : Hp) (args : Args) (us : List Value) (vs : List V) (Q : VK) (E : XK), Room k A → Free A → Env0 P w K mg base A outer s H → BindsTo s fd args (ps.zip us) → Vals vs us → sp vs H Q E →
    codeAny (model P w) A (.call (.ref f) args) (CR CX outer P w H s Q E) s
section
variable {P : Program} {w : World} {K : PySem.W.Frag} {mg : Str → Option Value} {base : Heap} {CX : CXT}
/-- a promise that is kept anywhere -/
theorem FnG.of {k : Nat} {f : Addr} {fd : FuncData} {ps : List Str} {sp : Sp} (F : FnOk P w K mg base CX k f fd ps sp) : FnG P w K mg base CX k f fd ps sp := ⟨F.len, fun A o s H a us vs Q E r _ => F.run A o s H a us vs Q E r⟩
theorem deeper_free {A : Around} {env : Env} (h : Free A) : Free (A.deeper env) := h
theorem mk_go {k : Nat} {f : Addr} {name qual : Str} {params : Arguments} {body : List Stmt} {scope : Scope} {dV kV doc pm cdv ct oc : Value} {an od : Option Addr} {osl : Array (Option Value)} {N ps : List Str} {sp : Sp}
    (at_f : K.lookup f = some ⟨oc, od, .func (PySem.W.fnOf name qual params body scope dV kV doc pm an cdv ct), osl⟩) (code : PySem.W.codeIn K cdv qual = true) (S : FnScope N ps scope) (many : ∀ vs H Q E, sp vs H Q E → vs.length = ps.length)
    (inside : ∀ (A : Around) (outer : List Env) (s : Shared) (H : Hp) (vs : List V) (Q : VK) (E : XK), Room k (A.deeper (envOfC qual scope s.heap.objs.size f cdv)) → Free A → sp vs H Q E →
      ∃ t, PSs (cxOf CX P w K mg base N qual scope f cdv A outer s H E) body t ∧ t { nx := fun _ H' => Q .non H', rt := Q } (start N vs) H) :
    FnG P w K mg base CX (k + 1) f (PySem.W.fnOf name qual params body scope dV kV doc pm an cdv ct) ps sp where
  many := many
  go A outer s H args us vs Q E room free e0 binds rel hs := by
    have count := many _ _ _ _ hs
    have stays : ∀ b o, base.get? b = some o → s.heap.get? b = some o := fun b o e => (e0.bs b o e).1
    have inK : K.In s.heap := e0.mod.kin.keeps stays
    refine codeAny_call_function room.depth (inK _ _ at_f) rfl S.co S.gen rfl (PySem.W.codeRec_of inK code) (binds _ _ _ _ ?_)
    refine wpAny_newFunctionEnv_cells S.kind (fun y hy => (S.par y.1 (List.of_mem_zip hy).1).elim Or.inl fun c => .inr ⟨c, PySem.W.cellsFrom_some _ _ _ (.inl c)⟩) fun env made s1 x => ?_
    subst made
    refine ⟨(e0.mod.nolimit.keeps stays).keeps x.toInCall.keep, codeAny_func ?_⟩
    obtain ⟨t, run, rd⟩ := inside A outer s H vs Q E (room.deeper _) free hs
    have I0 := inv_start (CX := CX) (E := E) S room.hd e0 count rel x
    refine wpAny_mono (run.run [] s1 (start N vs) H _ I0 rd) (fun fl s' out => ?_) fun _ _ z => z
    rcases fl with _ | _ | _ | u
    · obtain ⟨_, H', J, q⟩ := out
      exact ⟨V.non, H', J.os, J.bare, J.base, J.hok, rfl, q⟩
    · exact out.elim fun _ z => z.elim fun _ y => False.elim y.2
    · exact out.elim fun _ z => z.elim fun _ y => False.elim y.2
    · obtain ⟨v, _, H', J, rv, q⟩ := out
      exact ⟨v, H', J.os, J.bare, J.base, J.hok, rv, q⟩
end
/-! ### calls -/
section
variable {X : Cx} {CX : CXT} {k : Nat} {f C : Addr} {fd : FuncData} {ps : List Str} {sp : Sp} {dvs : List V} {ds : List Value} {E : XK}
theorem go_call {pins : List (Addr × Obj)} {σ : L2.St} {H : Hp} {s : Shared} {Q : VK} {args : Args} {us : List Value} {vs : List V} (F : FnG X.prog X.w X.K X.mg X.base CX k f fd ps sp) (room : Room k X.A) (free : Free X.A) (hx : Passes CX X E)
    (I : Inv X pins σ H s) (b : BindsTo s fd args (ps.zip us)) (r : Vals vs us) (h : sp vs H Q E) : codeAny (model X.prog X.w) X.A (.call (.ref f) args) (fun r s' => match r with
      | .error e => X.xe e s'
      | .ok (.ret u) => EP X pins σ Q u s'
      | .ok _ => False) s := codeAny_mono (F.go X.A X.stack s H args us vs Q E room free I.env0 b r h) fun r s' out => by
  rcases r with e | fl
  · exact hx pins σ H s e s' I out
  · rcases fl with _ | _ | _ | u <;> first | exact I.after out | exact False.elim out
end
/-- a def of the text, by its promise -/
structure Cg (P : Program) (w : World) (K : PySem.W.Frag) (mg : Str → Option Value) (base : Heap) (CX : CXT) (x : Str) (ps : List Str) (dvs : List V) (lv : Nat) (sp : Sp) : Prop where
  ex : ∃ (f : Addr) (fd : FuncData) (ds : List Value), FnG P w K mg base CX lv f fd ps sp ∧ mg x = some (.ref f) ∧ PySem.W.keepIn K (.ref f) = true ∧ Binds K fd ps ds ∧ Vals dvs ds
section
variable {X : Cx} {CX : CXT} {ps : List Str} {dvs : List V} {lv : Nat} {sp : Sp} {x : Str} {p pos : Pos} {e : Expr} {es : List Expr} {t : TA} {E : XK}
theorem pe_gox (C : Cg X.prog X.w X.K X.mg X.base CX x ps dvs lv sp) (hr : Room lv X.A) (fr : Free X.A) (hx : Passes CX X E) (hg : Gl X x) (ha : PA X (e :: es) t) (hdb : (x == ("__debug__" : Str)) = false := by decide)
    (he : starEach (e :: es) X.env = (false, eval e X.env) :: starEach es X.env := by rfl) (hpl : (backTo pos (starEach es X.env)).any (·.1) = false := by rfl) : PE X (.Call (.Name x p) (e :: es) [] pos) (tCall sp dvs E t) := by
  obtain ⟨f, fd, ds, F, hm, hk, hb, hd⟩ := C.ex
  refine ⟨fun pins s σ H Q I h => wpAny_Call_Name_kw (ld_glob I hg hm ?_ hdb)⟩
  refine PySem.W.callWith_K (h₀ := X.base) I.ok.mod.kin hk (thn (ha.run pos pins s σ H _ I h) fun us s1 ⟨vs, H1, I1, r, q⟩ => ⟨I1.kIn, ?_⟩) he hpl
  have r2 := r.append hd
  refine wpAny_call (codeAny_mono (go_call F hr fr hx I1 (hb s1 us I1.kIn (by rw [← r2.length]; exact F.many _ _ _ _ q)) r2 q) fun r s' z => ?_)
  rcases r with _ | (_ | _ | _ | _) <;> first | exact z | exact z.elim
theorem pe_go (C : Cg X.prog X.w X.K X.mg X.base CX0 x ps dvs lv sp) (hr : Room lv X.A) (fr : Free X.A) (hg : Gl X x) (ha : PA X (e :: es) t) (hdb : (x == ("__debug__" : Str)) = false := by decide)
    (he : starEach (e :: es) X.env = (false, eval e X.env) :: starEach es X.env := by rfl) (hpl : (backTo pos (starEach es X.env)).any (·.1) = false := by rfl) : PE X (.Call (.Name x p) (e :: es) [] pos) (tCall sp dvs E0 t) :=
  pe_gox C hr fr pass0 hg ha hdb he hpl
end
/-! ### repr of data -/
def rRepr (K : PySem.W.Frag) : List V → Hp → VK → Prop := fun xs H Q => ∃ v d, xs = [v] ∧ Dp K H v d ∧ PyData.showable d = true ∧ PyData.hasDict d = false ∧ PyData.depth d < 40 ∧ (PyData.shown d).length ≤ sizeLine ∧ Q (.str (PyData.shown d)) H
theorem cr_repr {X : Cx} (fr : Free X.A) (hu : X.A.units + 64 < cLine) : CallR X (.builtin "repr") (rRepr X.K) := by
  intro pins s σ H xs us Q I r h
  obtain ⟨v, d, rfl, hd, hs, hn, hdp, hz, q⟩ := h
  obtain ⟨u, rfl, ru⟩ := vals1 r
  obtain ⟨as, rd⟩ := Dp.reads I d v u hd ru
  cases hd with
  | non =>
    cases (show u = Value.none from ru)
    exact P.repr_of_none ⟨.str _, H, I.tok _, ⟨_, rfl⟩, q⟩
  | bl b =>
    cases (show u = Value.bool b from ru)
    refine P.repr_of_bool ⟨.str _, H, I.tok _, ⟨_, rfl⟩, ?_⟩
    cases b <;> exact q
  | int i =>
    obtain ⟨t, rfl⟩ := (show ∃ t, u = Value.int i t from ru)
    exact P.repr_of_int (of_decide_eq_true hs) ⟨.str _, H, I.tok _, ⟨_, rfl⟩, q⟩
  | str x =>
    obtain ⟨t, rfl⟩ := (show ∃ t, u = Value.str x t from ru)
    exact P.repr_of_str ⟨.str _, H, I.tok _, ⟨_, rfl⟩, q⟩ hz
  | lst _ _ =>
    cases (show u = Value.ref _ from ru)
    exact repr_of_reads' rd hs (PyData.noDict_hsm hn) fr (by omega) (fun _ _ e => e) (fun h' t tk k => ⟨.str _, H, I.kept k, ⟨_, rfl⟩, q⟩) hz
  | tup _ _ =>
    cases (show u = Value.ref _ from ru)
    exact repr_of_reads' rd hs (PyData.noDict_hsm hn) fr (by omega) (fun _ _ e => e) (fun h' t tk k => ⟨.str _, H, I.kept k, ⟨_, rfl⟩, q⟩) hz
/-! ### the law's own call -/
section
variable {P : Program} {w : World} {K : PySem.W.Frag} {mg : Str → Option Value} {CX : CXT}
/-- from a heap H in which nothing but the script at a may be tracked -/
theorem law_from {mb : Str → Option Value} {k : Nat} {fa a : Addr} {fd : FuncData} {x : Str} {sp : Sp} {s : Shared} {vs : List Value} {H : Hp}
    (inK : K.In s.heap) (globs : s.heap.Ns mainGlobals mg) (blt : s.heap.Ns builtinsNs mb) (same : ∀ x : Str, x ≠ "__name__" → mb x = bootBuiltins x) (lim : s.heap.NoLimit) (bare : s.gens = #[])
    (obj : s.heap.get? a = some { cls := .type "list", data := .seq vs.toArray }) (room : Room k callerA) (F : ∀ base : Heap, K.In base → base.Ns mainGlobals mg → FnG P w K mg base CX k fa fd [x] sp) (bind : ∀ (s : Shared) (u : Value), BindsTo s fd ⟨[u], []⟩ [(x, u)])
    (none_else : ∀ b u, H b = some u → b = a ∧ (∃ o xs, u = .frz o (.lst xs)) ∧ K.lookup a = none) (ok : HOk P w H s.heap) (hsp : sp [.ref a] H (fun v _ => v = .bl true) fun _ _ _ => False)
    (hCX : ∀ e s', CX [] H s (fun _ _ _ => False) e s' → False) :
    codeAny (model P w) callerA (.call (.ref fa) ⟨[.ref a], []⟩) (fun r s' => r = .ok (.ret (.bool true)) ∧ OldK s.heap s'.heap ∧ s'.os = s.os ∧ AllBare s'.gens) s := by
  have free_of : ∀ b, b ≠ a → H b = none := fun b n => by
    rcases e : H b with _ | u
    · rfl
    · exact absurd (none_else b u e).1 n
  have low : ∀ {b o}, s.heap.get? b = some o → H b = none → (hidT s.heap H).get? b = some o := fun e n => hidT_get e n
  have dicts : ∀ {b : Addr} {m : Str → Option Value}, s.heap.Ns b m → (hidT s.heap H).Ns b m := fun {b m} ⟨o, es, ep, e, d, r⟩ => by
    refine ⟨o, es, ep, low e (free_of b fun z => ?_), d, r⟩
    rw [z, obj] at e
    cases e
    exact nomatch (show Data.seq vs.toArray _ = Data.dict es ep from d)
  have kin : K.In (hidT s.heap H) := fun b o e => low (inK b o e) (by
    rcases q : H b with _ | u
    · rfl
    · obtain ⟨rfl, _, z⟩ := none_else b u q
      rw [z] at e
      cases e)
  have modl : Mod K mg (hidT s.heap H) := ⟨kin, dicts globs, ⟨mb, dicts blt, same⟩, let ⟨mc, h1, h2⟩ := lim; ⟨mc, dicts h1, h2⟩⟩
  have env : Env0 P w K mg (hidT s.heap H) callerA [] s H := ⟨rfl, modl, fun b o e => of_hidT e, Nat.le_of_eq (hidT_size _ _), trivial, fun b hb => (nomatch hb), ok, .of_eq bare⟩
  refine codeAny_mono ((F _ kin (dicts globs)).go callerA [] s H ⟨[.ref a], []⟩ [.ref a] [.ref a] _ _ room rfl env (bind s (.ref a)) (.cons rfl .nil) hsp) fun r s' out => ?_
  rcases r with e | fl
  · exact (hCX e s' out).elim
  · rcases fl with _ | _ | _ | u <;> try exact False.elim out
    obtain ⟨v, H', os, b', un, ok', rv, hv⟩ := out
    obtain rfl : v = .bl true := hv
    obtain rfl : u = Value.bool true := rv
    refine ⟨rfl, OldK.of_keep fun b o e => ?_, os, b'⟩
    rcases q : H b with _ | z
    · exact un.keep b o e q (fun m => nomatch m) (by simp)
    · obtain ⟨_, ⟨o1, xs, rfl⟩, _⟩ := none_else b z q
      have z2 := un.frzs b o1 _ q
      have old := (ok b _ q).1
      rw [e] at old
      cases old
      exact (ok' b _ z2).1
theorem law_go {mb : Str → Option Value} {k : Nat} {fa a : Addr} {fd : FuncData} {x : Str} {sp : Sp} {s : Shared} {vs : List Value} {ns : List Int}
    (inK : K.In s.heap) (globs : s.heap.Ns mainGlobals mg) (blt : s.heap.Ns builtinsNs mb) (same : ∀ x : Str, x ≠ "__name__" → mb x = bootBuiltins x) (lim : s.heap.NoLimit) (bare : s.gens = #[])
    (obj : s.heap.get? a = some { cls := .type "list", data := .seq vs.toArray }) (ivs : IntsAre vs ns) (size : ns.length ≤ sizeLine) (room : Room k callerA) (F : ∀ base : Heap, K.In base → base.Ns mainGlobals mg → FnG P w K mg base CX k fa fd [x] sp) (bind : ∀ (s : Shared) (u : Value), BindsTo s fd ⟨[u], []⟩ [(x, u)])
    (hsp : ∀ H : Hp, SqL K H a (ns.map V.int) → sp [.ref a] H (fun v _ => v = .bl true) fun _ _ _ => False) (hCX : ∀ H e s', CX [] H s (fun _ _ _ => False) e s' → False) :
    codeAny (model P w) callerA (.call (.ref fa) ⟨[.ref a], []⟩) (fun r s' => r = .ok (.ret (.bool true)) ∧ OldK s.heap s'.heap ∧ s'.os = s.os ∧ AllBare s'.gens) s := by
  have rv := vals_ints ivs
  have cnt := ivs.length
  rcases own : K.lookup a with _ | o
  · refine law_from (H := fun b => if b = a then some (.frz { cls := .type "list", data := .seq vs.toArray } (.lst (ns.map V.int))) else none) inK globs blt same lim bare obj room F bind (fun b u e => ?_) (fun b u e => ?_)
      (hsp _ (.inl (.inr ⟨_, if_pos rfl⟩))) (fun e s' => hCX _ e s')
    · by_cases hb : b = a
      · rw [if_pos hb] at e
        exact ⟨hb, ⟨_, _, (Option.some.inj e).symm⟩, own⟩
      · rw [if_neg hb] at e
        cases e
    · by_cases hb : b = a
      · subst hb
        have e' := (if_pos rfl).symm.trans e
        cases e'
        exact ⟨obj, by rw [List.length_map]; exact size, vs, _, rv, obj⟩
      · have e' := (if_neg hb).symm.trans e
        cases e'
  · have w0 := inK a o own
    rw [obj] at w0
    cases w0
    exact law_from (H := fun _ => none) inK globs blt same lim bare obj room F bind (fun b u e => (nomatch e)) (fun b u e => (nomatch e))
      (hsp _ (.inr ⟨_, vs.toArray, _, own, rfl, rfl, rfl, by rw [List.size_toArray, cnt]; exact size, by simpa using rv⟩)) (fun e s' => hCX _ e s')
end
theorem walk_go {l : PySem.W.OpenLaw} {n k : Nat} {q : Program} {loose : List Str} {XP : (Str → Option Value) → Heap → Prop} {YP : World → Heap → Prop} {d : DefRec} {K : Params → PySem.W.Frag} {sp : World → Sp} {x : Str}
    (most : l.most = some n) (small : n ≤ sizeLine) (nodf : d.params.defaults = []) (room : Room k callerA) (hY : ∀ (w : World) (h : Heap), YP w h → (K w.params).In h)
    (F : ∀ (w : World) (mg : Str → Option Value) (fa : Addr) (h : Heap), (K w.params).In h → h.Ns mainGlobals mg → mg d.name = some (.ref fa) →
      ∃ fd : FuncData, (∀ (s : Shared) (u : Value), BindsTo s fd ⟨[u], []⟩ [(x, u)]) ∧ ∀ base : Heap, (K w.params).In base → base.Ns mainGlobals mg → FnG l.prog w (K w.params) mg base CX0 k fa fd [x] (sp w))
    (hsp : ∀ (w : World) (H : Hp) (a : Addr) (ns : List Int), ns.length ≤ n → SqL (K w.params) H a (ns.map V.int) → sp w [.ref a] H (fun v _ => v = .bl true) fun _ _ _ => False) :
    PySem.W.WalkO q loose XP YP l.row.toRowW d [] (fun f vs => PySem.call f vs) := by
  refine Att.attach_call most nodf fun w s₀ s₁ mg mb fa o pm cd doc a vs ns G Y _ _ _ named obj ivs len bare => ?_
  obtain ⟨fd, bind, FF⟩ := F w mg fa _ (hY w _ Y) G.T.g named
  exact law_go (hY w _ Y) G.T.g G.T.b G.T.builtins G.T.nolimit bare obj ivs (Nat.le_trans len small) room FF bind (fun H S => hsp w H a ns len S) fun H e s' z => z
end Gu

/-! what repr shows of nested tuples of small leaves -/
namespace Rp
open PySem PySem.Spec PyProof.Rows L2 Hb St Sq Gu
theorem depthAll_le {n : Nat} : ∀ {l : List PyData}, (∀ d ∈ l, d.depth ≤ n) → PyData.depthAll l ≤ n
  | [], _ => by simp [PyData.depthAll]
  | d :: l, h => by
    have h1 := h d List.mem_cons_self
    have h2 := depthAll_le fun e he => h e (List.mem_cons_of_mem _ he)
    simp only [PyData.depthAll]
    omega
/-! ### what repr shows -/
structure RpOk (d : PyData) : Prop where
  sh : PyData.showable d = true
  nd : PyData.hasDict d = false
  dp : PyData.depth d < 40
  ln : (PyData.shown d).length ≤ sizeLine
theorem rd_repr {K : PySem.W.Frag} {H : Hp} {Q : VK} {v : V} {d : PyData} (h : Dp K H v d) (r : RpOk d) (q : Q (.str (PyData.shown d)) H) : rRepr K [v] H Q := ⟨v, d, rfl, h, r.sh, r.nd, r.dp, r.ln, q⟩
mutual
def sml : PyData → Bool
  | .int i => decide (i.natAbs < 1000)
  | .str s => PyData.strOk s && decide (s.length ≤ 20)
  | .tuple xs => smlA xs
  | _ => false
def smlA : List PyData → Bool
  | [] => true
  | x :: xs => sml x && smlA xs
end
theorem smlA_iff : ∀ {ds : List PyData}, smlA ds = true ↔ ∀ d ∈ ds, sml d = true
  | [] => by simp [smlA]
  | d :: ds => by rw [smlA, Bool.and_eq_true, smlA_iff]; simp
theorem log_small {i : Int} (h : i.natAbs < 1000) : i.natAbs.log2 < 10 := by
  by_cases c : i.natAbs = 0
  · rw [c]; decide
  · exact (Nat.log2_lt c).mpr (by omega)
mutual
theorem sml_all : ∀ d : PyData, sml d = true → PyData.showable d = true ∧ PyData.hasDict d = false ∧ PyData.canLay0 d = true ∧ PyData.intsShort 13 d = true
  | .int i, h => by
    have h : i.natAbs < 1000 := by simpa [sml] using h
    refine ⟨?_, by simp [PyData.hasDict], by simp [PyData.canLay0], ?_⟩
    · simp only [PyData.showable, decide_eq_true_eq]
      have := log_small h
      omega
    · simp only [PyData.intsShort, decide_eq_true_eq]
      exact PyData.shown_int_le (by omega)
  | .str s, h => by
    obtain ⟨h1, h2⟩ : PyData.strOk s = true ∧ s.length ≤ 20 := by simpa [sml] using h
    exact ⟨by simp [PyData.showable], by simp [PyData.hasDict], by simpa [PyData.canLay0] using h1, by simp [PyData.intsShort]⟩
  | .tuple xs, h => by
    obtain ⟨a, b, c, e⟩ := smlA_all xs (by simpa [sml] using h)
    exact ⟨by simpa [PyData.showable] using a, by simpa [PyData.hasDict] using b, by simpa [PyData.canLay0] using c, by simpa [PyData.intsShort] using e⟩
  | .none, h => by simp [sml] at h
  | .bool _, h => by simp [sml] at h
  | .list _, h => by simp [sml] at h
  | .dict _, h => by simp [sml] at h
theorem smlA_all : ∀ ds : List PyData, smlA ds = true → PyData.showableAll ds = true ∧ PyData.hasDictAll ds = false ∧ PyData.canLayAll0 ds = true ∧ PyData.intsShortAll 13 ds = true
  | [], _ => by simp [PyData.showableAll, PyData.hasDictAll, PyData.canLayAll0, PyData.intsShortAll]
  | d :: ds, h => by
    obtain ⟨h1, h2⟩ : sml d = true ∧ smlA ds = true := by simpa [smlA] using h
    obtain ⟨a, b, c, e⟩ := sml_all d h1
    obtain ⟨a2, b2, c2, e2⟩ := smlA_all ds h2
    exact ⟨by simp [PyData.showableAll, a, a2], by simp [PyData.hasDictAll, b, b2], by simp [PyData.canLayAll0, c, c2], by simp [PyData.intsShortAll, e, e2]⟩
end
theorem rp_sml {d : PyData} (h : sml d = true) (hd : d.depth < 40) (hw : d.weight ≤ 2 ^ 20) : RpOk d := by
  obtain ⟨a, b, c, e⟩ := sml_all d h
  exact ⟨a, b, hd, PyData.shown_fits (B := 13) (by decide) (by decide) (PyData.leavesShort_of_canLay0 13 d c e) hw⟩
theorem weightAll_le {n : Nat} : ∀ {l : List PyData}, (∀ d ∈ l, d.weight ≤ n) → PyData.weightAll l ≤ l.length * (n + 1)
  | [], _ => by simp [PyData.weightAll]
  | d :: l, h => by
    have h1 := h d List.mem_cons_self
    have h2 := weightAll_le fun e he => h e (List.mem_cons_of_mem _ he)
    simp only [PyData.weightAll, List.length_cons, Nat.add_mul, Nat.one_mul]
    omega
theorem leaf_w {d : PyData} (h : sml d = true) (hn : ∀ xs, d ≠ .tuple xs) : d.weight ≤ 20 ∧ d.depth ≤ 1 := by
  cases d with
  | int i =>
    have h : i.natAbs < 1000 := by simpa [sml] using h
    have := log_small h
    simp only [PyData.weight, PyData.depth]
    split <;> omega
  | str s =>
    obtain ⟨h1, h2⟩ : PyData.strOk s = true ∧ s.length ≤ 20 := by simpa [sml] using h
    exact ⟨h2, by simp [PyData.depth]⟩
  | tuple xs => exact absurd rfl (hn xs)
  | none => simp [sml] at h
  | bool _ => simp [sml] at h
  | list _ => simp [sml] at h
  | dict _ => simp [sml] at h
/-- small: leaves, weight, depth -/
structure Sml (d : PyData) (n k : Nat) : Prop where
  ok : sml d = true
  w : d.weight ≤ n
  dp : d.depth ≤ k
theorem sml_leaf {d : PyData} (h : sml d = true) (hn : ∀ xs, d ≠ .tuple xs) : Sml d 20 1 := ⟨h, (leaf_w h hn).1, (leaf_w h hn).2⟩
theorem sml_int {i : Int} (h : i.natAbs < 1000) : Sml (.int i) 20 1 := sml_leaf (by simp [sml, h]) (fun _ z => by cases z)
theorem sml_str {s : Str} (h : PyData.strOk s = true) (l : s.length ≤ 20) : Sml (.str s) 20 1 := sml_leaf (by simp [sml, h, l]) (fun _ z => by cases z)
theorem sml_tup {n k m : Nat} {xs : List PyData} (h : ∀ d ∈ xs, Sml d n k) (l : xs.length ≤ m) : Sml (.tuple xs) (m * (n + 1)) (k + 1) := by
  refine ⟨by rw [sml, smlA_iff]; exact fun d hd => (h d hd).ok, ?_, ?_⟩
  · simp only [PyData.weight]
    exact Nat.le_trans (weightAll_le fun d hd => (h d hd).w) (Nat.mul_le_mul_right _ l)
  · have := depthAll_le fun d hd => (h d hd).dp
    simp only [PyData.depth]
    omega
theorem Sml.mono {d : PyData} {n k n' k' : Nat} (s : Sml d n k) (a : n ≤ n') (b : k ≤ k') : Sml d n' k' := ⟨s.ok, Nat.le_trans s.w a, Nat.le_trans s.dp b⟩
theorem Sml.rp {d : PyData} {n k : Nat} (s : Sml d n k) (a : n ≤ 2 ^ 20) (b : k < 40) : RpOk d := rp_sml s.ok (Nat.lt_of_le_of_lt s.dp b) (Nat.le_trans s.w a)
theorem rp_none : RpOk .none := ⟨rfl, rfl, by simp [PyData.depth], Nat.le_trans (show _ ≤ 5 by decide) (by decide)⟩
theorem rp_int {i : Int} (h : i.natAbs < 1000) : RpOk (.int i) := (sml_int h).rp (by decide) (by decide)
end Rp

/-! len(set(x)) of ints, list(d.values()), sorted(d) of a dict by pairs, d.setdefault of a dict by tuples -/
namespace L2
open PySem PySem.Spec PyProof.Rows PySem.W
theorem met_mem (val : Nat → Int) (x : Int) : ∀ i, x ∈ firstMet val i ↔ ∃ j, j < i ∧ val j = x
  | 0 => by rw [firstMet_zero]; simp
  | i + 1 => by
    rw [firstMet_succ]
    unfold step_dedup
    have ih := met_mem val x i
    split
    · next h =>
      rw [ih]
      constructor
      · rintro ⟨j, hj, e⟩; exact ⟨j, Nat.lt_succ_of_lt hj, e⟩
      · rintro ⟨j, hj, e⟩
        rcases Nat.lt_succ_iff_lt_or_eq.mp hj with hj | hj
        · exact ⟨j, hj, e⟩
        · subst hj
          obtain ⟨y, hy, ey⟩ := List.any_eq_true.mp h
          have : y = val j := eq_of_beq ey
          rw [this, e] at hy
          exact ih.mp hy
    · rw [List.mem_append, ih, List.mem_singleton]
      constructor
      · rintro (⟨j, hj, e⟩ | e)
        · exact ⟨j, Nat.lt_succ_of_lt hj, e⟩
        · exact ⟨i, Nat.lt_succ_self i, e.symm⟩
      · rintro ⟨j, hj, e⟩
        rcases Nat.lt_succ_iff_lt_or_eq.mp hj with hj | hj
        · exact .inl ⟨j, hj, e⟩
        · subst hj; exact .inr e.symm
theorem met_nodup (val : Nat → Int) : ∀ i, (firstMet val i).Nodup
  | 0 => by rw [firstMet_zero]; exact List.nodup_nil
  | i + 1 => by
    rw [firstMet_succ]
    unfold step_dedup
    split
    · exact met_nodup val i
    · next h =>
      rw [List.nodup_append]
      refine ⟨met_nodup val i, by simp, fun a ha b hb e => h ?_⟩
      rw [List.mem_singleton] at hb
      subst hb
      exact List.any_eq_true.mpr ⟨a, ha, beq_iff_eq.mpr e⟩
theorem ints_of' : ∀ {ns : List Int} {us : List Value}, Vals (ns.map V.int) us → PyProof.Rows.IntsAre us ns
  | [], _, .nil => .nil
  | n :: ns, _, .cons r t => by
    obtain ⟨k, rfl⟩ := r
    exact .cons n k (ints_of' t)
/-- len(set(x)), x a list of ints: how many unlike ones -/
def tLenSetG (K : PySem.W.Frag) (ta : TE) : TE := fun σ H Q => ta σ H fun x H1 => ∃ (l : Addr) (ns : List Int), x = .ref l ∧ SqL K H1 l (ns.map V.int) ∧ ns.length ≤ 4000 ∧ ∀ m : List Int, m.Nodup → (∀ y, y ∈ m ↔ y ∈ ns) → Q (.int (m.length : Nat)) H1
theorem pe_lenSetG {X : Cx} {a : Expr} {ta : TE} {p p2 q pos : Pos} (hg : Gl X "len") (hm : X.mg "len" = none) (hg2 : Gl X "set") (hm2 : X.mg "set" = none) (ha : PE X a ta) (hc : X.calm = true := by rfl)
    (na : starEach [a] X.env = (false, eval a X.env) :: starEach [] X.env := by rfl) : PE X (.Call (.Name "len" p) [.Call (.Name "set" p2) [a] [] q] [] pos) (tLenSetG X.K ta) := by
  refine ⟨fun pins s σ H Q I h => ?_⟩
  refine Call_ (ld_blt I hg hm boot_len ?_)
  refine PyProof.Rows.callWith_builtin1 (PyProof.Rows.args_cons ?_ rfl) rfl rfl
  refine Call_ (ld_blt I hg2 hm2 boot_set ?_)
  refine PyProof.Rows.callWith_type1 (PyProof.Rows.args_cons (thn (ha.run pins s σ H _ I h) fun v s1 ⟨x, H1, I1, r1, q1⟩ => PyProof.Rows.args_nil ?_) na) na rfl
  obtain ⟨l, ns, rfl, hq, hl, q1⟩ := q1
  cases r1
  obtain ⟨its, r, pl, hz⟩ := I1.list hq
  have hlen : its.toArray.size = ns.length := by rw [List.size_toArray, ← r.length, List.length_map]
  refine call_set_list (I1.ok.hd hc) pl.isList (by simpa using ints_of' r) (by rw [hlen]; unfold scanBound; omega) fun h' tk hS hk => ?_
  refine PyProof.Rows.args_nil ?_
  rw [hlen] at hS
  have fl := firstMet_length_le (fun i => ns.getD i 0) ns.length
  have q2 := q1 (firstMet (fun i => ns.getD i 0) ns.length) (met_nodup _ _) fun y => by
    rw [met_mem]
    constructor
    · rintro ⟨j, hj, e⟩
      rw [List.getD_eq_getElem?_getD, List.getElem?_eq_getElem hj] at e
      rw [← e]; exact List.getElem_mem hj
    · intro hy
      obtain ⟨j, hj, e⟩ := List.getElem_of_mem hy
      exact ⟨j, hj, by rw [List.getD_eq_getElem?_getD, List.getElem?_eq_getElem hj, ← e]; rfl⟩
  generalize firstMet (fun i => ns.getD i 0) ns.length = m at hS q2 fl
  obtain ⟨o, es, ep, t, ho, hex, hd, _, _, _, hf, hn⟩ := hS
  have I2 : Inv X pins σ H1 { s1 with heap := h', toks := tk } := I1.kept fun b o e => hk b o (Heap.lt_size e) e
  exact call_len_set ho hex hd hf (by rw [hn] <;> omega) ⟨.int m.length, H1, I2.tok _, ⟨_, by rw [hn]⟩, q2⟩
section
variable {X : Cx} {o e f : Expr} {td ty tx : TE} {apos cpos mpos pos p : Pos}
/-- list(o.values()) -/
def tListVals (td : TE) : TE := fun σ H Q => td σ H fun x H1 => ∃ a kvs, x = V.ref a ∧ Rd H1 a (.dK kvs) ∧ ∀ l, H1 l = none → Q (.ref l) (upd H1 l (.lst (kvs.map (·.2))))
theorem pe_listVals (hc : X.calm = true) (hg : Gl X "list") (hm : X.mg "list" = none) (hd : PE X o td) (hbase : attributeBase o "values" X.env (eval o X.env) = eval o X.env := by rfl) (hline : (apos.endLine == mpos.line) = true := by rfl)
    (hse : starEach [Expr.Call (.Attribute o "values" apos) [] [] mpos] X.env = [(false, eval (Expr.Call (.Attribute o "values" apos) [] [] mpos) X.env)] := by rfl) :
    PE X (.Call (.Name "list" p) [.Call (.Attribute o "values" apos) [] [] mpos] [] pos) (tListVals td) := by
  refine ⟨fun pins s σ H Q I h => ?_⟩
  refine wpAny_Call_Name_kw (ld_blt I hg hm (u := .type "list") (by first | rfl | decide +kernel) ?_ (by first | decide +kernel | decide) (by first | decide +kernel | decide))
  refine PyProof.Rows.callWith_type1 (PyProof.Rows.args_cons (wpAny_Call_method0_late hbase hline (thn (hd.run pins s σ H _ I h) fun v s1 ⟨x, H1, I1, r1, a, kvs, ex, ha, q⟩ => ?_)) hse) hse rfl
  subst ex
  obtain rfl : v = Value.ref a := r1
  obtain ⟨hz, hsys, vs, rel, dof⟩ := dk_rd I1.hok ha
  obtain ⟨ep, dat⟩ := dof.dictAt
  have dat' := dat
  obtain ⟨ob, es, ho, ex, hdat, hko, hpr, hnd⟩ := dat'
  have hl : kvs.length = vs.length := Paired.length rel
  refine ⟨"dict", "dict.values", F.plainAttrs_dict, F.slot_dict_values, F.type_dict_values, ⟨ob, ho, ex.1⟩, fun b e => ?_, Calls.callWith_builtin rfl (PySem.evalArgs_none ?_)⟩
  · cases e
    exact ⟨ob, ho, ex.2.1⟩
  refine call_meetsIn F.slot_dict_values ⟨ob, ho, ex.1⟩ F.entry_dict_values (F.args_dict_values_1 _) (meets_dict_values (mixKind X.prog X.w) a hsys) ⟨⟨vs, dof⟩, ?_⟩
  have k1 : ∀ b u, s1.heap.get? b = some u → (s1.heap.push { cls := .type "dict_values", data := .fields #[.ref a] }).get? b = some u := fun b u e => Heap.get?_push_of_some _ e
  have dat1 : (s1.heap.push { cls := .type "dict_values", data := .fields #[.ref a] }).DictAt (mixKind X.prog X.w) a vs ep := dat.keep k1
  refine PyProof.Rows.args_nil ?_
  refine PySem.W.kdl_call (PySem.W.kdl_values (knd := mixKind X.prog X.w) (r := s1.heap.objs.size) (d := a) (kvs := vs) (ep := ep)) (I1.ok.hd hc) ⟨⟨_, Heap.get?_push_size _ rfl, rfl, rfl⟩, dat1⟩ (by rw [← hl]; exact hz) fun h' tk acc c kp e2 it => ?_
  have hal : acc.toList.length = kvs.length := by rw [Array.length_toList, it.1, hl]
  have rv : Vals (kvs.map (·.2)) acc.toList := by
    have gen : ∀ (ks : List (Key × V)) (us : List Value), us.length = ks.length → (∀ (j : Nat) (v : Value), us[j]? = some v → ∃ k x, ks[j]? = some (k, x) ∧ RelV x v) → Vals (ks.map (·.2)) us := by
      intro ks
      induction ks with
      | nil => intro us hl _; cases us with
        | nil => exact .nil
        | cons _ _ => simp at hl
      | cons q ks ih =>
        intro us hl hv
        cases us with
        | nil => simp at hl
        | cons u us =>
          obtain ⟨k, x, e1, e2⟩ := hv 0 u rfl
          have e1' : q = (k, x) := Option.some.inj e1
          subst e1'
          exact .cons e2 (ih us (by simpa using hl) fun j v e => by simpa using hv (j + 1) v (by simpa using e))
    refine gen kvs acc.toList hal fun j v e => ?_
    obtain ⟨k, hk⟩ := it.2 j v (by rw [← Array.getElem?_toList]; exact e)
    obtain ⟨x, h1, h2⟩ := KV.at' rel hk
    exact ⟨k, x, h1, h2⟩
  have hsz : (s1.heap.push { cls := .type "dict_values", data := .fields #[.ref a] }).objs.size = s1.heap.objs.size + 1 := Heap.size_push _ _
  have hn : H1 (s1.heap.push { cls := .type "dict_values", data := .fields #[.ref a] }).objs.size = none := I1.hok.fresh (by rw [hsz]; exact Nat.le_succ _)
  exact ⟨.ref _, _, I1.laid (t' := tk) (o := .lst (kvs.map (·.2))) (fun b u e => kp b u (k1 b u e)) (by rw [hsz]; exact Nat.le_succ _) ⟨by rw [List.length_map]; exact hz, acc.toList, c, rv, by rw [Array.toArray_toList]; exact e2⟩, rfl, q _ hn⟩
/-- d.setdefault(y, z), d a dict by tuples -/
def tDSetT (td ty tx : TE) : TE := fun σ H Q => td σ H fun x H1 => ∃ a, x = .ref a ∧ IsD H1 a ∧ ty σ H1 fun y H2 => tx σ H2 fun z H3 => ∃ (kvs : List (List Key × V)) (k : List Key) (b : Addr), H3 a = some (.dT kvs) ∧ y = .ref b ∧ H3 b = some (.tup (k.map kV)) ∧ kvs.length < sizeLine ∧
  (∀ v, valV kvs k = some v → Q v H3) ∧ (valV kvs k = none → Q z (upd H3 a (.dT (putK kvs k z))))
theorem pe_dsetT (hu : X.A.units + 1 < cLine) (ho : PE X o td) (he : PE X e ty) (hf : PE X f tx) (m : M2 X o "setdefault" apos e f cpos) : PE X (.Call (.Attribute o "setdefault" apos) [e, f] [] cpos) (tDSetT td ty tx) := by
  refine ⟨fun pins s σ H Q I h => ?_⟩
  refine wpAny_Call_method m.base m.few m.line PySem.F.plainAttrs_dict PySem.F.slot_dict_setdefault PySem.F.type_dict_setdefault (thn (ho.run pins s σ H _ I h) fun u s1 ⟨x, H1, I1, rx, a, ex, d, q1⟩ => ?_)
  subst ex
  obtain rfl : u = Value.ref a := rx
  obtain ⟨t1, t2, _⟩ := isD_at I1 d
  refine ⟨t1, t2, ?_⟩
  rw [m.trees]
  refine Calls.callWith_builtin rfl (Calls.evalArgs_plain (Calls.spliced_cons (thn (he.run pins s1 σ H1 _ I1 q1) fun iv s2 ⟨y, H2, I2, ry, q2⟩ =>
    Calls.spliced_cons (thn (hf.run pins s2 σ H2 _ I2 q2) fun fv s3 ⟨z, H3, I3, rz, kvs, k, b, ea, ey, eb, hl, q3, q4⟩ => Calls.spliced_nil ?_))))
  subst ey
  cases (show iv = Value.ref b from ry)
  obtain ⟨hz0, hd, xs, rel, dd⟩ := dt_of I3.hok ea
  have hz : xs.length ≤ sizeLine := by rw [← Paired.length rel]; exact hz0
  refine call_setdefault_heap (hsz := hz) (tupleKind_room_in1 hu) (key_of I3.hok eb) hd dd (fun p hp => ?_) fun hn h' dd' hs => ?_
  · have rr := rel.val k
    rw [hp] at rr
    cases hv : valV kvs k with
    | none => rw [hv] at rr; exact False.elim rr
    | some v => rw [hv] at rr; exact ⟨v, H3, I3.tok _, rr, q3 v hv⟩
  · have rr := rel.val k
    rw [hn] at rr
    cases hv : valV kvs k with
    | some v => rw [hv] at rr; exact False.elim rr
    | none =>
      have hl2 : (putK kvs k z).length ≤ sizeLine := by have := length_putK kvs k z; omega
      obtain ⟨q, es, ep, hq, h2, h3, h4, _, h5⟩ := dd'
      refine ⟨z, upd H3 a (.dT (putK kvs k z)), d_write I3 (by rw [ea]; exact True.intro) hs ⟨q, hq⟩ ⟨hl2, hd, _, (rel.put k eb rz).keeps fun c ys ec => ?_, q, es, ep, hq, h2, h3, h4, h5⟩, rz, q4 hv⟩
      rw [upd_ne (ne_of ec ea (fun z => nomatch z))]
      exact ec
end
end L2

namespace L2
open PySem PySem.Spec PyProof.Rows PySem.W
def dPr (p : Int × Int) : PyData := .tuple [.int p.1, .int p.2]
def keyP (p : Int × Int) : List Key := [Sum.inl p.1, Sum.inl p.2]
def PrP (H : Hp) (v : V) (p : Int × Int) : Prop := ∃ b, v = .ref b ∧ H b = some (.tup [.int p.1, .int p.2])
/-- sorted(d), d a dict by pairs of ints: its keys' own tuples -/
def rSortDT : List V → Hp → VK → Prop := fun vs H Q => ∃ (d : Addr) (kvs : List (List Key × V)) (ps : List (Int × Int)), vs = [.ref d] ∧ Rd H d (.dT kvs) ∧ kvs.map (·.1) = ps.map keyP ∧
  ∀ q its, H q = none → Paired (PrP H) its (ps.mergeSort (dataLe false dPr)) → Q (.ref q) (upd H q (.lst its))
theorem alike_dPr (p q : Int × Int) : alike (dPr p) (dPr q) = true := by
  show alike (.tuple _) (.tuple _) = true
  simp [alike, alikeAll]
abbrev BP := Addr × (Int × Int)
theorem pair_zip {H : Hp} : ∀ {kvs : List (List Key × V)} {bs : List Addr} {ps : List (Int × Int)}, IsKeys H kvs bs → kvs.map (·.1) = ps.map keyP → bs.length = ps.length ∧ ∀ z ∈ bs.zip ps, H z.1 = some (.tup [.int z.2.1, .int z.2.2])
  | [], _, ps, h, e => by
    cases h
    cases ps with
    | nil => exact ⟨rfl, fun z hz => nomatch hz⟩
    | cons _ _ => cases e
  | kv :: kvs, _, [], h, e => by cases e
  | kv :: kvs, _, p :: ps, h, e => by
    cases h with
    | @cons _ b _ bs r t =>
      rw [List.map_cons, List.map_cons, List.cons.injEq] at e
      obtain ⟨h1, h2⟩ := pair_zip t e.2
      refine ⟨by simp [h1], fun z hz => ?_⟩
      rw [List.zip_cons_cons] at hz
      rcases List.mem_cons.mp hz with rfl | hz
      · rw [e.1] at r; exact r
      · exact h2 z hz
theorem each_zip {H : Hp} : ∀ {bs : List Addr} {ps : List (Int × Int)}, bs.length = ps.length → (∀ z ∈ bs.zip ps, H z.1 = some (.tup [.int z.2.1, .int z.2.2])) → EachIs (fun (u : Value) (z : BP) => u = .ref z.1 ∧ H z.1 = some (.tup [.int z.2.1, .int z.2.2])) (bs.map Value.ref) (bs.zip ps)
  | [], [], _, _ => .nil
  | [], _ :: _, h, _ => by cases h
  | _ :: _, [], h, _ => by cases h
  | b :: bs, p :: ps, h, hz => .cons ⟨rfl, hz (b, p) (List.mem_cons_self ..)⟩ (each_zip (by simpa using h) fun z m => hz z (List.mem_cons_of_mem _ m))
theorem each_out {H : Hp} : ∀ {us : List Value} {zs : List BP}, EachIs (fun (u : Value) (z : BP) => u = .ref z.1 ∧ H z.1 = some (.tup [.int z.2.1, .int z.2.2])) us zs → Vals (zs.map fun z => V.ref z.1) us ∧ Paired (PrP H) (zs.map fun z => V.ref z.1) (zs.map (·.2))
  | _, _, .nil => ⟨.nil, .nil⟩
  | _, _, .cons h t => ⟨.cons h.1 (each_out t).1, .cons ⟨_, rfl, h.2⟩ (each_out t).2⟩
section
variable {X : Cx}
theorem cr_sortDT (hc : X.calm = true) (hu : X.A.units + 64 < cLine) : CallR X (.builtin "sorted") rSortDT := by
  intro pins s σ H xs us Q I r h
  obtain ⟨d, kvs, ps, rfl, hd, hk, q⟩ := h
  obtain ⟨u, rfl, rx⟩ := r.one
  cases rx
  obtain ⟨z, hs, ks, pr, o, es, ep, ho, hx, hdt, he, hn⟩ := (show ObjOk X.prog X.w H s.heap d (.dT kvs) from hd.ok I.hok)
  have l1 : es.size = ks.length := size_of_entries he
  have l2 : kvs.length = ks.length := Paired.length pr
  refine Calls.call_function_entry PyProof.Rows.kind_sorted PyProof.Rows.plain_sorted PyProof.Rows.entry_sorted (PyProof.Rows.args_sorted1 _) ?_
  unfold Builtin.«sorted»
  refine wpAny_bind (m := checkCount "sorted" 1 1 _) (wpAny_pure ?_)
  refine wpAny_bind (PySem.W.kdu_collect (A := X.A.in1) (kdl_raw hs hx hdt) (I.ok.hd hc) ho (by omega) fun h' tk acc' kp it => ?_)
  have ea : acc'.toList = (ks.map fun x => x.2.1).map Value.ref := by
    rw [List.map_map]
    have hl : acc'.toList.length = ks.length := by rw [Array.length_toList, it.1]; exact l1
    apply List.ext_getElem?
    intro j
    rw [List.getElem?_map]
    cases hj : acc'.toList[j]? with
    | none =>
      have h1 := List.getElem?_eq_none_iff.mp hj
      rw [List.getElem?_eq_none (by omega)]
      all_goals rfl
    | some v =>
      obtain ⟨en, hen, hv⟩ := it.2 j v (by rw [← Array.getElem?_toList]; exact hj)
      have qe := entry_at he j
      rw [hen] at qe
      cases hb : ks[j]? with
      | none =>
        rw [hb] at qe
        exact nomatch (show some en = none from qe)
      | some b =>
        rw [hb] at qe
        have e2 : en = entryOfKey (tupleKind (mixKind X.prog X.w)) b := Option.some.inj qe
        rw [hv, e2]
        all_goals rfl
  have ik := isKeys_of pr
  generalize (ks.map fun x => x.2.1) = bs at ea ik
  obtain ⟨p1, p2⟩ := pair_zip ik hk
  rw [ea]
  have I1 : Inv X pins σ H { s with heap := h', toks := tk } := I.kept kp
  have lb : (bs.map Value.ref).length ≤ sizeLine := by
    have := Paired.length ik
    rw [List.length_map]; omega
  refine wpAny_bind (wpAny_newList ?_ lb)
  have hoL : (h'.push (seqObj "list" (bs.map Value.ref).toArray 0)).get? h'.objs.size = some (seqObj "list" (bs.map Value.ref).toArray 0) := Heap.get?_push_size _ rfl
  show wpAny _ _ _ _ _ { s with heap := h'.push (seqObj "list" (bs.map Value.ref).toArray 0), toks := tk }
  let h2 : Heap := h'.push (seqObj "list" (bs.map Value.ref).toArray 0)
  let h3 : Heap := sortingHeap h2 h'.objs.size (bs.map Value.ref)
  have e0 := each_zip p1 p2
  have old : ∀ b u, h'.get? b = some u → h3.get? b = some u := fun b u e => sortingHeap_old (Nat.ne_of_lt (Heap.lt_size e)) (Heap.get?_push_of_some _ e)
  have er : EachIs (fun (u : Value) (z : BP) => ∃ as, Reads h3 u (dPr z.2) as) (bs.map Value.ref) (bs.zip ps) := e0.mono fun u z hz => by
    obtain ⟨as, r⟩ := Dp.reads I1 (dPr z.2) (.ref z.1) u (.tup (SqT.of hz.2) (.cons (.int _) (.cons (.int _) .nil))) hz.1
    exact ⟨as, PyProof.Rows.Reads.keeps old r⟩
  have hal : AllAlike ((bs.zip ps).map fun z => dPr z.2) := AllAlike.of fun a b => alike_dPr a.2 b.2
  have S : SortsAt X.prog X.w X.A.in1.in1 { s with heap := h3, toks := tk } (dataKind h3 ((bs.zip ps).map fun z => dPr z.2)) (bs.map Value.ref) := by
    refine SortsAt.data (s := { s with heap := h3, toks := tk }) (each_map (R := fun v d => ∃ as, Reads h3 v d as) (fun z : BP => dPr z.2) er) hal (Sortable.tuples fun z => ⟨_, _, rfl⟩) (bound_map fun z hz => ?_)
    have dd : (dPr z.2).depth ≤ 2 := by show PyData.depth (.tuple [.int _, .int _]) ≤ 2; simp [PyData.depth, PyData.depthAll]
    show X.A.units + 1 + 1 + (dPr z.2).depth < cLine
    omega
  refine wpAny_bind (wpAny_holding (wpAny_call_entry PyProof.Rows.slot_list_sort ⟨_, hoL, rfl⟩ PyProof.Rows.entry_list_sort
    (list_sort_vals (s := { s with heap := h2, toks := tk }) (κ := dataKind h3 ((bs.zip ps).map fun z => dPr z.2)) hoL S lb ⟨_, rfl, ?_⟩)
    (PyProof.Rows.args_list_sort _)))
  have eo := sortVals_data (h' := h3) (enc := fun z : BP => dPr z.2) false e0 er hal
  obtain ⟨v1, v2⟩ := each_out eo
  have ep2 : ((bs.zip ps).mergeSort (dataLe false fun z : BP => dPr z.2)).map (·.2) = ps.mergeSort (dataLe false dPr) := by
    have m := List.map_mergeSort (r := dataLe false fun z : BP => dPr z.2) (s := dataLe false dPr) (f := fun z : BP => z.2) (l := bs.zip ps) fun a _ b _ => rfl
    rw [m, List.map_snd_zip (by omega)]
  rw [ep2] at v2
  obtain ⟨c, hcx⟩ := sortedHeap_at (vs := bs.map Value.ref) (out := (sortVals (dataKind h3 ((bs.zip ps).map fun z => dPr z.2)) false (bs.map Value.ref) (bs.map Value.ref)).toArray) hoL
  have hl3 : (((bs.zip ps).mergeSort (dataLe false fun z : BP => dPr z.2)).map fun z => V.ref z.1).length ≤ sizeLine := by
    rw [List.length_map, List.length_mergeSort, List.length_zip]
    rw [List.length_map] at lb
    omega
  refine wpAny_pure ⟨_, rfl, .ref h'.objs.size, upd H h'.objs.size (.lst (((bs.zip ps).mergeSort (dataLe false fun z : BP => dPr z.2)).map fun z => V.ref z.1)), I1.laid (t' := tk) (fun b u e => ?_) (Nat.le_refl _)
    (show ObjOk X.prog X.w _ _ _ (.lst _) from ⟨hl3, _, c, v1, hcx⟩), rfl, q _ _ (I1.hok.fresh (Nat.le_refl _)) v2⟩
  have hb : b < h'.objs.size := Heap.lt_size e
  rw [PyProof.Rows.sortedHeap_old (Nat.ne_of_lt hb) (by rw [size_push']; exact Nat.lt_succ_of_lt hb)]
  exact Heap.get?_push_of_some _ e
end
end L2

/-! sorted of a tuple whose items are data -/
namespace L2
open PySem PySem.Spec PyProof.Rows PySem.W
def rSortTD (K : PySem.W.Frag) : List V → Hp → VK → Prop := fun vs H Q => ∃ (a : Addr) (bs : List (V × PyData)), vs = [V.ref a] ∧ SqT K H a (bs.map (·.1)) ∧ (∀ b ∈ bs, Dp K H b.1 b.2 ∧ b.2.depth ≤ 20) ∧ AllAlike (bs.map (·.2)) ∧ Sortable (bs.map (·.2)) ∧
  ∀ p, H p = none → Q (.ref p) (upd H p (.lst ((bs.mergeSort (dataLe false (·.2))).map (·.1))))
section
variable {X : Cx}
theorem cr_sortTD (hu : X.A.units + 64 < cLine) : CallR X (.builtin "sorted") (rSortTD X.K) := by
  intro pins s σ H vs us Q I r h
  obtain ⟨a, bs, rfl, hs, hx, hal, hk, q⟩ := h
  obtain ⟨its, rv, pt, hz⟩ := I.tuple hs
  obtain ⟨u, rfl, ru⟩ := vals1 r
  cases ru
  obtain ⟨o, ho, hcl, n, hd⟩ := pt
  have lv := rv.length
  rw [List.length_map] at lv
  refine Calls.call_function_entry PyProof.Rows.kind_sorted PyProof.Rows.plain_sorted PyProof.Rows.entry_sorted (PyProof.Rows.args_sorted1 _) ?_
  unfold Builtin.«sorted»
  refine wpAny_bind (m := checkCount "sorted" 1 1 _) (wpAny_pure ?_)
  have lb : its.length ≤ sizeLine := by
    rw [List.length_map] at hz
    omega
  refine wpAny_bind (wpAny_collect_seq a (.inr rfl) ho hcl hd (fun h' kp => ?_) (by rw [List.size_toArray]; exact lb))
  have I1 : Inv X pins σ H { s with heap := h' } := I.kept (t' := s.toks) kp
  show wpAny _ _ _ _ _ { s with heap := h' }
  have el : its.toArray.toList = its := by simp
  rw [el]
  refine wpAny_bind (wpAny_newList ?_ lb)
  have hoL : (h'.push (seqObj "list" its.toArray 0)).get? h'.objs.size = some (seqObj "list" its.toArray 0) := Heap.get?_push_size _ rfl
  show wpAny _ _ _ _ _ { s with heap := h'.push (seqObj "list" its.toArray 0) }
  let h2 : Heap := h'.push (seqObj "list" its.toArray 0)
  let h3 : Heap := sortingHeap h2 h'.objs.size its
  have e0 := vals_each rv
  have old : ∀ b u, h'.get? b = some u → h3.get? b = some u := fun b u e => sortingHeap_old (Nat.ne_of_lt (Heap.lt_size e)) (Heap.get?_push_of_some _ e)
  have hm : ∀ {us : List Value} {cs : List (V × PyData)}, EachIs (fun u b => RelV b.1 u) us cs → (∀ b ∈ cs, b ∈ bs) → EachIs (fun v b => ∃ as, Reads h3 v ((·.2) b) as) us cs := by
    intro us cs h
    induction h with
    | nil => intro _; exact .nil
    | cons h1 _ ih =>
      intro hb
      obtain ⟨as, r⟩ := Dp.reads I1 _ _ _ (hx _ (hb _ (List.mem_cons_self ..))).1 h1
      exact .cons ⟨as, PyProof.Rows.Reads.keeps old r⟩ (ih fun b m => hb b (List.mem_cons_of_mem _ m))
  have er := hm e0 fun _ h => h
  have S : SortsAt X.prog X.w X.A.in1.in1 { s with heap := h3 } (dataKind h3 (bs.map (·.2))) its := by
    refine SortsAt.data (s := { s with heap := h3 }) (each_map (R := fun v d => ∃ as, Reads h3 v d as) (fun z : V × PyData => z.2) er) hal hk (bound_map fun z hz => ?_)
    have := (hx z hz).2
    show X.A.units + 1 + 1 + z.2.depth < cLine
    omega
  refine wpAny_bind (wpAny_holding (wpAny_call_entry PyProof.Rows.slot_list_sort ⟨_, hoL, rfl⟩ PyProof.Rows.entry_list_sort
    (list_sort_vals (s := { s with heap := h2 }) (κ := dataKind h3 (bs.map (·.2))) hoL S lb ⟨_, rfl, ?_⟩)
    (PyProof.Rows.args_list_sort _)))
  have eo := sortVals_data (h' := h3) (enc := fun z : V × PyData => z.2) false e0 er hal
  have hv := each_vals eo
  obtain ⟨c, hcx⟩ := sortedHeap_at (vs := its) (out := (sortVals (dataKind h3 (bs.map (·.2))) false its its).toArray) hoL
  have hl3 : ((bs.mergeSort (dataLe false (·.2))).map (·.1)).length ≤ sizeLine := by
    rw [List.length_map, List.length_mergeSort]
    omega
  refine wpAny_pure ⟨_, rfl, .ref h'.objs.size, upd H h'.objs.size (.lst ((bs.mergeSort (dataLe false (·.2))).map (·.1))), I1.laid (t' := s.toks) (fun b u e => ?_) (Nat.le_refl _)
    (show ObjOk X.prog X.w _ _ _ (.lst _) from ⟨hl3, _, c, hv, hcx⟩), rfl, q _ (I1.hok.fresh (Nat.le_refl _))⟩
  have hb : b < h'.objs.size := Heap.lt_size e
  rw [PyProof.Rows.sortedHeap_old (Nat.ne_of_lt hb) (by rw [size_push']; exact Nat.lt_succ_of_lt hb)]
  exact Heap.get?_push_of_some _ e
end
end L2

/-! the law's own call in the layer FnG, the tables of some defs known to be empty -/
namespace Gt
open PySem PySem.Spec PyProof.Rows L2 LamX Gu
section
variable {P : Program} {w : World} {K : PySem.W.Frag} {mg : Str → Option Value} {CX : CXT}
theorem from_tabs {mb : Str → Option Value} {k : Nat} {fa a : Addr} {cs : List (Addr × Addr)} {fd : FuncData} {x : Str} {sp : Sp} {s : Shared} {vs : List Value} {H : Hp}
    (inK : K.In s.heap) (globs : s.heap.Ns mainGlobals mg) (blt : s.heap.Ns builtinsNs mb) (same : ∀ x : Str, x ≠ "__name__" → mb x = bootBuiltins x) (lim : s.heap.NoLimit) (bare : s.gens = #[])
    (tabs : ∀ p ∈ cs, s.heap.get? p.2 = some { cls := .none, data := .fields #[] }) (out : ∀ p ∈ cs, K.lookup p.2 = none) (hd : ∀ p ∈ cs, PySem.W.codeHdIn K p.1 p.2 = true)
    (main : ∃ (bm : Addr) (ob : Obj), mg "__builtins__" = some (.ref bm) ∧ bm ≠ builtinsNs ∧ s.heap.get? bm = some ob ∧ ob.cls = .type "module" ∧ ob.dict = some builtinsNs ∧ ob.data = .plain)
    (obj : s.heap.get? a = some { cls := .type "list", data := .seq vs.toArray }) (room : Room k callerA)
    (F : ∀ base : Heap, K.In base → base.Ns mainGlobals mg → (∀ p ∈ cs, TabB base mg p.1 p.2) → FnG P w K mg base CX k fa fd [x] sp) (bind : ∀ (s : Shared) (u : Value), BindsTo s fd ⟨[u], []⟩ [(x, u)])
    (isT : ∀ p ∈ cs, H p.2 = some (.tbl #[])) (else_ : ∀ b u, H b = some u → (b = a ∧ (∃ o xs, u = .frz o (.lst xs)) ∧ K.lookup a = none) ∨ ∃ p ∈ cs, b = p.2) (ok : HOk P w H s.heap) (hsp : sp [.ref a] H (fun v _ => v = .bl true) fun _ _ _ => False)
    (hCX : ∀ e s', CX [] H s (fun _ _ _ => False) e s' → False) :
    codeAny (model P w) callerA (.call (.ref fa) ⟨[.ref a], []⟩) (fun r s' => r = .ok (.ret (.bool true)) ∧ OldK s.heap s'.heap ∧ s'.os = s.os ∧ AllBare s'.gens) s := by
  -- what is neither the script nor a table is free
  have low : ∀ {b o}, s.heap.get? b = some o → (∀ vs n, o.data ≠ .seq vs n) → o.data ≠ .fields #[] → (hidT s.heap H).get? b = some o := fun {b o} e n1 n2 => hidT_get e (by
    rcases q : H b with _ | u
    · rfl
    · rcases else_ b u q with ⟨rfl, _⟩ | ⟨p, m, rfl⟩
      · rw [obj] at e; cases e; exact absurd rfl (n1 _ _)
      · rw [tabs p m] at e; cases e; exact absurd rfl n2)
  have dicts : ∀ {b : Addr} {m : Str → Option Value}, s.heap.Ns b m → (hidT s.heap H).Ns b m := fun {b m} ⟨o, es, ep, e, d, r⟩ =>
    ⟨o, es, ep, low e (fun vs n z => by rw [d] at z; cases z) (fun z => by rw [d] at z; cases z), d, r⟩
  have kin : K.In (hidT s.heap H) := fun b o e => hidT_get (inK b o e) (by
    rcases q : H b with _ | u
    · rfl
    · rcases else_ b u q with ⟨rfl, _, z⟩ | ⟨p, m, rfl⟩
      · rw [z] at e; cases e
      · rw [out p m] at e; cases e)
  have modl : Mod K mg (hidT s.heap H) := ⟨kin, dicts globs, ⟨mb, dicts blt, same⟩, let ⟨mc, h1, h2⟩ := lim; ⟨mc, dicts h1, h2⟩⟩
  have tb : ∀ p ∈ cs, TabB (hidT s.heap H) mg p.1 p.2 := fun p m => by
    have nM : mainGlobals ≠ p.2 := fun z => by
      obtain ⟨o, es, ep, e, d, _⟩ := globs
      rw [z, tabs p m] at e
      cases e
      cases d
    refine NdefX.tabB_of_K kin (hd p m) ?_ nM
    obtain ⟨bm, ob, b1, b2, b3, b4, b5, b6⟩ := main
    refine ⟨bm, ob, b1, b2, fun q => ?_, fun q => ?_, low b3 (fun vs n z => by rw [b6] at z; cases z) (fun z => by rw [b6] at z; cases z), b4, b5, b6⟩
    · obtain ⟨o, es, ep, e, d, _⟩ := globs
      rw [← q, b3] at e
      cases e
      rw [d] at b6
      cases b6
    · rw [q, tabs p m] at b3
      cases b3
      cases b6
  have env : Env0 P w K mg (hidT s.heap H) callerA [] s H := ⟨rfl, modl, fun b o e => of_hidT e, Nat.le_of_eq (hidT_size _ _), trivial, fun b hb => (nomatch hb), ok, .of_eq bare⟩
  refine codeAny_mono ((F _ kin (dicts globs) tb).go callerA [] s H ⟨[.ref a], []⟩ [.ref a] [.ref a] _ _ room rfl env (bind s (.ref a)) (.cons rfl .nil) hsp) fun r s' fin => ?_
  rcases r with e | fl
  · exact (hCX e s' fin).elim
  · rcases fl with _ | _ | _ | u <;> try exact False.elim fin
    obtain ⟨v, H', os, b', un, ok', rv, hv⟩ := fin
    obtain rfl : v = .bl true := hv
    obtain rfl : u = Value.bool true := rv
    have grown : ∀ p ∈ cs, ∃ more : Array Value, s'.heap.get? p.2 = some { cls := .none, data := .fields more } := fun p m => by
      obtain ⟨more, z⟩ := un.tbls p.2 #[] (isT p m)
      exact ⟨_, ok' p.2 _ z⟩
    have stays : ∀ b o, (¬ ∃ p ∈ cs, b = p.2) → s.heap.get? b = some o → s'.heap.get? b = some o := fun b o n e => by
      rcases q : H b with _ | z
      · exact un.keep b o e q (fun m => nomatch m) (by simp)
      · rcases else_ b z q with ⟨_, ⟨o1, xs, rfl⟩, _⟩ | t
        · have z2 := un.frzs b o1 _ q
          have old := (ok b _ q).1
          rw [e] at old
          cases old
          exact (ok' b _ z2).1
        · exact absurd t n
    refine ⟨rfl, ⟨fun b o e => ?_, fun b o e => ?_⟩, os, b'⟩
    · rcases Classical.em (∃ p ∈ cs, b = p.2) with ⟨p, m, rfl⟩ | n
      · obtain ⟨more, hm⟩ := grown p m
        rw [tabs p m] at e
        cases e
        exact .inr (.inl ⟨((PySem.W.codeHd_of_K inK (hd p m)).tab (tabs p m)).isCodeTable, rfl, #[], more, rfl, by rw [Array.empty_append]; exact hm⟩)
      · exact .inl (stays b o n e)
    · rcases Classical.em (∃ p ∈ cs, b = p.2) with ⟨p, m, rfl⟩ | n
      · obtain ⟨more, hm⟩ := grown p m
        exact ⟨_, hm⟩
      · exact ⟨o, stays b o n e⟩
theorem law_tabs {mb : Str → Option Value} {k : Nat} {fa a : Addr} {cs : List (Addr × Addr)} {fd : FuncData} {x : Str} {sp : Sp} {s : Shared} {vs : List Value} {ns : List Int}
    (inK : K.In s.heap) (globs : s.heap.Ns mainGlobals mg) (blt : s.heap.Ns builtinsNs mb) (same : ∀ x : Str, x ≠ "__name__" → mb x = bootBuiltins x) (lim : s.heap.NoLimit) (bare : s.gens = #[])
    (tabs : ∀ p ∈ cs, s.heap.get? p.2 = some { cls := .none, data := .fields #[] }) (out : ∀ p ∈ cs, K.lookup p.2 = none) (hd : ∀ p ∈ cs, PySem.W.codeHdIn K p.1 p.2 = true)
    (main : ∃ (bm : Addr) (ob : Obj), mg "__builtins__" = some (.ref bm) ∧ bm ≠ builtinsNs ∧ s.heap.get? bm = some ob ∧ ob.cls = .type "module" ∧ ob.dict = some builtinsNs ∧ ob.data = .plain)
    (obj : s.heap.get? a = some { cls := .type "list", data := .seq vs.toArray }) (ivs : IntsAre vs ns) (size : ns.length ≤ sizeLine) (room : Room k callerA)
    (F : ∀ base : Heap, K.In base → base.Ns mainGlobals mg → (∀ p ∈ cs, TabB base mg p.1 p.2) → FnG P w K mg base CX k fa fd [x] sp) (bind : ∀ (s : Shared) (u : Value), BindsTo s fd ⟨[u], []⟩ [(x, u)])
    (hsp : ∀ H : Hp, (∀ p ∈ cs, H p.2 = some (.tbl #[])) → SqL K H a (ns.map V.int) → sp [.ref a] H (fun v _ => v = .bl true) fun _ _ _ => False) (hCX : ∀ H e s', CX [] H s (fun _ _ _ => False) e s' → False) :
    codeAny (model P w) callerA (.call (.ref fa) ⟨[.ref a], []⟩) (fun r s' => r = .ok (.ret (.bool true)) ∧ OldK s.heap s'.heap ∧ s'.os = s.os ∧ AllBare s'.gens) s := by
  have rv := vals_ints ivs
  have cnt := ivs.length
  have ne : ∀ p ∈ cs, p.2 ≠ a := fun p m z => by
    have e := tabs p m
    rw [z, obj] at e
    have e' : Data.seq vs.toArray _ = Data.fields #[] := congrArg Obj.data (Option.some.inj e)
    cases e'
  let T : Hp := fun b => if b ∈ cs.map (·.2) then some (.tbl #[]) else none
  have tAt : ∀ p ∈ cs, T p.2 = some (.tbl #[]) := fun p m => if_pos (List.mem_map.mpr ⟨p, m, rfl⟩)
  have tEl : ∀ b u, T b = some u → u = .tbl #[] ∧ ∃ p ∈ cs, b = p.2 := fun b u e => by
    by_cases h : b ∈ cs.map (·.2)
    · have e : (if b ∈ cs.map (·.2) then some (HO.tbl #[]) else none) = some u := e
      rw [if_pos h] at e
      obtain ⟨p, m, z⟩ := List.mem_map.mp h
      exact ⟨(Option.some.inj e).symm, p, m, z.symm⟩
    · have e : (if b ∈ cs.map (·.2) then some (HO.tbl #[]) else none) = some u := e
      rw [if_neg h] at e
      cases e
  have tOk : HOk P w T s.heap := fun b u e => by
    obtain ⟨rfl, p, m, rfl⟩ := tEl b u e
    exact tabs p m
  rcases own : K.lookup a with _ | o
  · let H : Hp := fun b => if b = a then some (.frz { cls := .type "list", data := .seq vs.toArray } (.lst (ns.map V.int))) else T b
    have hN : ∀ b, b ≠ a → H b = T b := fun b n => if_neg n
    have hA : H a = some (.frz { cls := .type "list", data := .seq vs.toArray } (.lst (ns.map V.int))) := if_pos rfl
    have hT : ∀ p ∈ cs, H p.2 = some (.tbl #[]) := fun p m => (hN _ (ne p m)).trans (tAt p m)
    refine from_tabs (H := H) inK globs blt same lim bare tabs out hd main obj room F bind hT (fun b u e => ?_) (fun b u e => ?_) (hsp H hT (.inl (.inr ⟨_, hA⟩))) (fun e s' => hCX _ e s')
    · by_cases hb : b = a
      · rw [hb, hA] at e
        exact .inl ⟨hb, ⟨_, _, (Option.some.inj e).symm⟩, own⟩
      · rw [hN b hb] at e
        exact .inr (tEl b u e).2
    · by_cases hb : b = a
      · subst hb
        rw [hA] at e
        cases e
        exact ⟨obj, by rw [List.length_map]; exact size, vs, _, rv, obj⟩
      · rw [hN b hb] at e
        obtain ⟨rfl, p, m, rfl⟩ := tEl b u e
        exact tabs p m
  · have w0 := inK a o own
    rw [obj] at w0
    cases w0
    exact from_tabs (H := T) inK globs blt same lim bare tabs out hd main obj room F bind tAt (fun b u e => .inr (tEl b u e).2) tOk
      (hsp T tAt (.inr ⟨_, vs.toArray, _, own, rfl, rfl, rfl, by rw [List.size_toArray, cnt]; exact size, by simpa using rv⟩)) (fun e s' => hCX _ e s')
end
/-- what the head gives of the law: cs, the code objects and their tables -/
def LawT (l : PySem.W.OpenLaw) (w : World) (K : PySem.W.Frag) (k n : Nat) (x : Str) (mg : Str → Option Value) (fa : Addr) (h : Heap) : Prop :=
  ∃ (fd : FuncData) (cs : List (Addr × Addr)) (sp : Sp), (∀ p ∈ cs, h.get? p.2 = some { cls := .none, data := .fields #[] }) ∧ (∀ p ∈ cs, K.lookup p.2 = none) ∧ (∀ p ∈ cs, PySem.W.codeHdIn K p.1 p.2 = true) ∧ (∀ (s : Shared) (u : Value), BindsTo s fd ⟨[u], []⟩ [(x, u)]) ∧
    (∀ (H : Hp) (a : Addr) (ns : List Int), ns.length ≤ n → (∀ p ∈ cs, H p.2 = some (.tbl #[])) → SqL K H a (ns.map V.int) → sp [.ref a] H (fun v _ => v = .bl true) fun _ _ _ => False) ∧
    ∀ base : Heap, K.In base → base.Ns mainGlobals mg → (∀ p ∈ cs, TabB base mg p.1 p.2) → FnG l.prog w K mg base CX0 k fa fd [x] sp
theorem walk_tabs {l : PySem.W.OpenLaw} {n k : Nat} {q : Program} {loose : List Str} {XP : (Str → Option Value) → Heap → Prop} {YP : World → Heap → Prop} {d : DefRec} {K : Params → PySem.W.Frag} {x : Str}
    (most : l.most = some n) (fits : n ≤ sizeLine) (plain : d.params.defaults = []) (room : Room k callerA) (kin : ∀ (w : World) (g : Heap), YP w g → (K w.params).In g)
    (F : ∀ (w : World) (mg : Str → Option Value) (fa : Addr) (g : Heap), YP w g → (K w.params).In g → g.Ns mainGlobals mg → mg d.name = some (.ref fa) → LawT l w (K w.params) k n x mg fa g) :
    PySem.W.WalkO q loose XP YP l.row.toRowW d [] (fun f vs => PySem.call f vs) := by
  refine Att.attach_callB most plain fun w t0 t1 mg mb fa ob pm cd doc ar vs ns Gd Yd _ _ _ nmf ob2 iz len bits gen => ?_
  have KX := kin w _ Yd
  obtain ⟨fd, cs, sp, T1, T2, T3, bnd, prom, fn⟩ := F w mg fa _ Yd KX Gd.T.g nmf
  exact law_tabs KX Gd.T.g Gd.T.b Gd.T.builtins Gd.T.nolimit gen T1 T2 T3 Gd.T.bmain ob2 iz (Nat.le_trans len fits) room fn bnd (fun H hH hS => prom H ar ns len hH hS) fun H e s' z => z
end Gt


namespace Kw
open PySem PySem.Spec PyProof.Rows L2 Hb Ow
/-- repr of a bool -/
theorem call_repr_bl {X : Cx} : CallR X (.builtin "repr") (fun xs H Q => ∃ b : Bool, xs = [.bl b] ∧ Q (.str (if b then "True" else "False")) H) := by
  intro pins s σ H xs us Q I r h
  obtain ⟨b, rfl, q⟩ := h
  obtain ⟨u, rfl, rx⟩ := vals1 r
  obtain rfl : u = Value.bool b := rx
  exact PySem.P.repr_of_bool ⟨.str _, H, I.tok _, ⟨_, rfl⟩, q⟩
theorem vals_app {a b : List V} {x y : List Value} (h : Vals a x) (k : Vals b y) : Vals (a ++ b) (x ++ y) := by
  induction h with
  | nil => exact k
  | cons r _ ih => exact .cons r ih
theorem vals_rev {a : List V} {x : List Value} (h : Vals a x) : Vals a.reverse x.reverse := by
  induction h with
  | nil => exact .nil
  | cons r _ ih => rw [List.reverse_cons, List.reverse_cons]; exact vals_app ih (.cons r .nil)
/-- a def without defaults, all parameters by name, from the last one to the first -/
theorem kb_rev {K : PySem.W.Frag} {x qual : Str} {st : Stmt} {f : Addr} {fd : FuncData} {ps ks : List Str} (F : Fun K x qual st f fd)
    (h : ∀ (kV doc pm : Value) (an : Option Addr) (cdv ct : Value) (ws : List Value), ws.length = ks.length → bindArgs (PySem.W.fnOf x qual (defArgs st) (defBody st) (defScope st) .none kV doc pm an cdv ct) ⟨[], ks.zip ws⟩ = pure (ps.zip ws.reverse)) : KBn K fd ps 0 ks (fun _ ws => ws.reverse) (fun _ zs => zs.reverse) := by
  obtain ⟨oc, od, kV, doc, pm, an, cdv, ct, osl, rfl, lk, hcd⟩ := F.ex
  refine ⟨fun s us ws X l1 l2 => ?_, fun r1 r2 => vals_rev r2⟩
  obtain rfl := List.eq_nil_of_length_eq_zero l1
  exact .of_eq (h kV doc pm an cdv ct ws l2)
end Kw

namespace K6
open PySem PySem.Spec PyProof.Rows L2 Hb St Sq Ow En Zp RZ Rd Xb Da Lo Cq LamX Lc Lp Lg Sk Ty Rp
theorem names_in {ns : List Str} {t u : Tale} (h : TlIn ns t) (k : TlIn ns u) : ∀ x ∈ namesT [t, u], x ∈ ns := fun x hx => by
  obtain ⟨a, ha, h1⟩ := List.mem_flatMap.mp hx
  obtain ⟨l, hl, h2⟩ := List.mem_flatMap.mp h1
  simp only [List.mem_cons, List.not_mem_nil, or_false] at ha
  rcases ha with rfl | rfl
  · exact h.inn l hl x h2
  · exact k.inn l hl x h2
theorem names_len {ns : List Str} {t u : Tale} (ok : NsOk ns) (h : TlIn ns t) (k : TlIn ns u) (lt : t.length ≤ 10) (lu : u.length ≤ 10) : (namesT [t, u]).length ≤ 1000 := by
  have h1 := h.names ok
  have h2 := k.names ok
  unfold namesT
  rw [List.flatMap_cons, List.flatMap_cons, List.flatMap_nil, List.length_append, List.append_nil]
  omega
theorem rung_len {ns : List Str} {t u : Tale} (ok : NsOk ns) (h : TlIn ns t) (k : TlIn ns u) : (lotS (namesT [t, u])).length ≤ 4 :=
  Nat.le_trans (nodup_len (asc_nodupS (asc_lotS _)) fun x hx => names_in h k x (mem_lotS.mp hx)) ok.ln
theorem two_of {K : PySem.W.Frag} {H : Hp} {ns : List Str} {v w : V} {t u : Tale} (ok : NsOk ns) (h : TlIn ns t) (k : TlIn ns u) (lt : t.length ≤ 10) (lu : u.length ≤ 10) (ht : TalH H v t) (hu : TalH H w u) : Two K H v w (tD t) (tD u) t u :=
  ⟨ht.dp, hu.dp, tale_sm ok h (by omega), tale_sm ok k (by omega), fun _ => ⟨ht, hu, h.ok ok (by omega), k.ok ok (by omega)⟩, rung_len ok h k, names_len ok h k lt lu⟩
theorem nm_strOk {x : Str} (h : IsNm x) : PyData.strOk x = true := by
  have := (sh_str (n := 0) h).1
  simpa [PyData.canLay0] using this
theorem sml_lot {l : Lot} (h : l.length ≤ 100) (nm : ∀ x ∈ l, IsNm x) : Sml (lD l) 2100 2 := by
  refine sml_tup (n := 20) (k := 1) (xs := l.map .str) (m := 100) (fun d hd => ?_) (by rw [List.length_map]; exact h)
  obtain ⟨x, hx, rfl⟩ := List.mem_map.mp hd
  exact sml_str (nm_strOk (nm x hx)) (by have := (nm x hx).2.1; omega)
theorem rd_repr2 {K : PySem.W.Frag} {H : Hp} {Q : VK} {v : V} {d : PyData} (h : Dp K H v d) (r : RpOk d) (q : Q (.str (PyData.shown d)) H) : Gu.rRepr K [v] H Q := ⟨v, d, rfl, h, r.sh, r.nd, r.dp, r.ln, q⟩
/-! ### answers as data -/
def optLD : Option Lot → PyData
  | some l => lD l
  | none => .none
def ndD (x : Nat × Option Lot) : PyData := .tuple [.int (x.1 : Nat), optLD x.2]
theorem OptL.dp {K : PySem.W.Frag} {H : Hp} {v : V} : ∀ {o : Option Lot}, OptL H v o → Dp K H v (optLD o)
  | some _, h => LotH.dp h
  | none, h => by rw [show v = .non from h]; exact .non
theorem NdH.dp {K : PySem.W.Frag} {H : Hp} {v : V} {x : Nat × Option Lot} (h : NdH H v x) : Dp K H v (ndD x) := let ⟨_, _, e, t, o⟩ := h; e ▸ .tup (SqT.of t) (.cons (.int _) (.cons o.dp .nil))
theorem rp_n0 : RpOk (ndD (0, none)) := ⟨by decide, by decide, by decide, Nat.le_trans (show _ ≤ 9 by decide) (by decide)⟩
theorem rp_n1 {k : Nat} {l : Lot} (h : k < 1000) (ln : l.length ≤ 100) (nm : ∀ y ∈ l, IsNm y) : RpOk (ndD (k, some l)) := by
  refine (sml_tup (n := 2100) (k := 2) (m := 2) (xs := [.int (k : Nat), lD l]) (fun d hd => ?_) (Nat.le_refl 2)).rp (by decide) (by decide)
  simp only [List.mem_cons, List.not_mem_nil, or_false] at hd
  rcases hd with rfl | rfl
  · exact (sml_int (by omega)).mono (by decide) (by decide)
  · exact sml_lot ln nm
def optND : Option (List Nat) → PyData
  | some f => .tuple (f.map fun i => .int (i : Nat))
  | none => .none
theorem OptN.dp {K : PySem.W.Frag} {H : Hp} {v : V} : ∀ {o : Option (List Nat)}, OptN H v o → Dp K H v (optND o)
  | some f, ⟨r, e, t⟩ => e ▸ .tup (SqT.of t) (dp_nats f)
  | none, h => by rw [show v = .non from h]; exact .non
theorem rp_on {o : Option (List Nat)} (h : ∀ f, o = some f → f.length ≤ 100 ∧ ∀ i ∈ f, i < 1000) : RpOk (optND o) := by
  cases o with
  | none => exact rp_none
  | some f =>
    refine (sml_tup (n := 20) (k := 1) (m := 100) (xs := f.map fun i => .int (i : Nat)) (fun d hd => ?_) (by rw [List.length_map]; exact (h f rfl).1)).rp (by decide) (by decide)
    obtain ⟨i, hi, rfl⟩ := List.mem_map.mp hd
    exact sml_int (by have := (h f rfl).2 i hi; omega)
theorem mat_rp {a b : Tale} (la : a.length ≤ 100) (lb : b.length ≤ 100) : RpOk (optND (matF a b)) := rp_on fun f e => by
  unfold matF at e
  cases m : matL b a [] with
  | none => rw [m] at e; cases e
  | some g =>
    rw [m] at e
    have e : (if g.length = b.length then some g else none) = some f := e
    by_cases c : g.length = b.length
    · rw [if_pos c] at e
      cases e
      exact ⟨by omega, fun i hi => by have := mat_lt (fun _ h => by cases h) m i hi; omega⟩
    · rw [if_neg c] at e
      cases e
/-! ### tones as data -/
def iD (l : List Int) : PyData := .tuple (l.map .int)
def tnD (t : List (List Int)) : PyData := .tuple (t.map iD)
theorem dp_ints {K : PySem.W.Frag} {H : Hp} : ∀ l : List Int, DpAll K H (l.map V.int) (l.map PyData.int)
  | [] => .nil
  | i :: r => .cons (.int _) (dp_ints r)
theorem LotN.dp {K : PySem.W.Frag} {H : Hp} {v : V} {l : List Int} (h : LotN H v l) : Dp K H v (iD l) := let ⟨_, e, t⟩ := h; e ▸ .tup (SqT.of t) (dp_ints l)
theorem TalN.dp {K : PySem.W.Frag} {H : Hp} {v : V} {t : List (List Int)} (h : TalN H v t) : Dp K H v (tnD t) := let ⟨_, _, e, ea, al⟩ := h; e ▸ .tup (SqT.of ea) (dp_all (fun _ _ r => r.dp) al)
theorem sh_tnD (t : List (List Int)) : Sh 2 (tnD t) := sh_tup fun l _ => sh_tup fun i _ => sh_int 0 i
theorem eqv_tnD (a b : List (List Int)) : PyData.eqv (tnD a) (tnD b) = decide (a = b) := eqvAll_map (f := iD) (fun a b => show PyData.eqv (iD a) (iD b) = decide (a = b) from eqvAll_map eqv_int a b) a b
theorem rd_eqTn {K : PySem.W.Frag} {H : Hp} {Q : VK} {v u : V} {a b : List (List Int)} (ha : TalN H v a) (hb : TalN H u b) (q : Q (.bl (decide (a = b))) H) : rEqD K v u H Q :=
  ⟨tnD a, tnD b, ha.dp, hb.dp, (sh_tnD a).ok (by decide), (sh_tnD b).ok (by decide), by rw [eqv_tnD]; exact q⟩
/-! ### tales sorted, cut, joined -/
theorem sort_tal {K : PySem.W.Frag} {H : Hp} {v : V} {t : Tale} {Q : VK} (h : TalH H v t) (ne : ∀ l ∈ t, l ≠ []) (q : ∀ p H', Same H H' → LosH H' p (t.mergeSort lle) → Q (.ref p) H') : rSortTD K [v] H Q := by
  obtain ⟨a, its, rfl, ea, al⟩ := h
  let f : V × Lot → V × PyData := fun z => (z.1, lD z.2)
  have e1 : ((its.zip t).map f).map (·.1) = its := by rw [List.map_map]; exact zip_fst al
  have e2 : ((its.zip t).map f).map (·.2) = t.map lD := by
    rw [List.map_map]
    conv => rhs; rw [← zip_snd al]
    rw [List.map_map]; rfl
  refine ⟨a, (its.zip t).map f, rfl, SqT.of (by rw [e1]; exact ea), fun b hb => ?_, ?_, ?_, fun p hp => ?_⟩
  · obtain ⟨z, hz, rfl⟩ := List.mem_map.mp hb
    exact ⟨(zip_mem al z hz).1.dp, dep_lD _⟩
  · rw [e2]
    intro d hd d' hd'
    obtain ⟨x, _, rfl⟩ := List.mem_map.mp hd
    obtain ⟨y, _, rfl⟩ := List.mem_map.mp hd'
    exact alike_lD x y
  · rw [e2]
    refine .inl fun d hd => ?_
    obtain ⟨l, hl, rfl⟩ := List.mem_map.mp hd
    cases l with
    | nil => exact absurd rfl (ne _ hl)
    | cons x r => exact ⟨_, _, rfl⟩
  · exact q p _ (same_new hp _) ⟨_, upd_same, (srt_pairs (enc := lD) al).imp fun _ _ r => r.same (same_new hp _)⟩
theorem sort_same (a b : Tale) : decide (a.mergeSort lle = b.mergeSort lle) = decide (a.Perm b) := decide_eq_decide.mpr ⟨fun e => (List.mergeSort_perm a lle).symm.trans (e ▸ List.mergeSort_perm b lle), fun p => sort_perm lD_inj p⟩
theorem rd_eqLos {K : PySem.W.Frag} {H : Hp} {Q : VK} {a b : Addr} {t u : List Lot} (ha : LosH H a t) (hb : LosH H b u) (na : ∀ l ∈ t, ∀ x ∈ l, IsNm x) (nb : ∀ l ∈ u, ∀ x ∈ l, IsNm x) (q : Q (.bl (decide (t = u))) H) : rEqD K (.ref a) (.ref b) H Q :=
  ⟨_, _, ha.dp, hb.dp, (sh_los na).ok (by decide), (sh_los nb).ok (by decide), by
    have : PyData.eqv (.list (t.map lD)) (.list (u.map lD)) = decide (t = u) := eqvAll_map eqv_lD t u
    rw [this]; exact q⟩
section
variable {K : PySem.W.Frag} {H : Hp} {Q : VK}
theorem rd_slTal {v : V} {t : Tale} (i j : Option Nat) {lo hi : Option Int} (elo : lo = i.map fun n => ((n : Nat) : Int)) (ehi : hi = j.map fun n => ((n : Nat) : Int)) (h : TalH H v t) (q : ∀ p H', Same H H' → TalH H' (.ref p) (cutN t i j) → Q (.ref p) H') : rSlA K v lo hi H Q := by
  subst elo ehi
  obtain ⟨a, its, rfl, e, al⟩ := h
  refine rd_slT e fun p H' s ep => ?_
  rw [cutV_N] at ep
  exact q p H' s ⟨p, _, rfl, ep, (cutN_all al i j).imp fun _ _ r => r.same s⟩
theorem rd_catTal {v w : V} {t u : Tale} (h1 : TalH H v t) (h2 : TalH H w u) (l : t.length + u.length ≤ 1000) (q : ∀ p H', Same H H' → TalH H' (.ref p) (t ++ u) → Q (.ref p) H') : rCatA K v w H Q := by
  obtain ⟨a, its, rfl, e, al⟩ := h1
  obtain ⟨b, jts, rfl, f, bl⟩ := h2
  refine rd_catT e f (by rw [al.len, bl.len]; exact l) fun p H' s ep => ?_
  exact q p H' s ⟨p, _, rfl, ep, (al.app bl).imp fun _ _ r => r.same s⟩
end
/-- one lot moved behind the next -/
def swpT (t : Tale) (n : Nat) : Tale := cutN t none (some n) ++ cutN t (some (n + 1)) (some (n + 2)) ++ cutN t (some n) (some (n + 1)) ++ cutN t (some (n + 2)) none
theorem swp_len (t : Tale) (n : Nat) : (swpT t n).length ≤ t.length := by
  unfold swpT cutN
  simp only [Option.getD, List.drop_zero, List.length_take, List.length_drop, List.length_append]
  omega
theorem swp_in {ns : List Str} {t : Tale} (h : TlIn ns t) (n : Nat) : TlIn ns (swpT t n) := tlIn_iff.mpr fun l m => by
  unfold swpT at m
  simp only [List.mem_append] at m
  rcases m with ((m | m) | m) | m <;> exact tlIn_iff.mp h l (cutN_mem m)
/-! ### what is told of both -/
theorem nd_le (a b : Tale) : (nd a b).1 ≤ 2 := by
  unfold nd
  by_cases c : a = b
  · rw [if_pos c]; decide
  · rw [if_neg c]
    split
    · exact Nat.le_succ 1
    · exact Nat.le_refl 2
theorem nd_opt {a b : Tale} (ha : Good a) (hb : Good b) {l : Lot} (h : (nd a b).2 = some l) : l ∈ OL (namesT [a, b]) := by
  by_cases c : (nd a b).1 = 0
  · have := nd_0 c
    subst this
    have e : nd a a = (0, none) := by unfold nd; rw [if_pos rfl]
    rw [e] at h
    cases h
  · obtain ⟨m, e, hm, _⟩ := need_lot ha hb c
    rw [e] at h
    cases h
    exact hm
theorem ol_in {ns : List Str} {t u : Tale} (ok : NsOk ns) (h : TlIn ns t) (k : TlIn ns u) {l : Lot} (m : l ∈ OL (namesT [t, u])) : l.length ≤ 4 ∧ (∀ x ∈ l, x ∈ ns) ∧ l.Pairwise sLt := by
  have s := mem_OL.mp m
  exact ⟨Nat.le_trans s.length_le (rung_len ok h k), fun x hx => names_in h k x (mem_lotS.mp (s.subset hx)), (asc_lotS _).sublist s⟩
theorem nd_rp {ns : List Str} {t u : Tale} (ok : NsOk ns) (h : TlIn ns t) (k : TlIn ns u) : RpOk (ndD (nd t u)) := by
  by_cases c : (nd t u).1 = 0
  · have := nd_0 c
    subst this
    rw [show nd t t = (0, none) by unfold nd; rw [if_pos rfl]]
    exact rp_n0
  · obtain ⟨l, e, m, _⟩ := need_lot h.good k.good c
    obtain ⟨h1, h2, _⟩ := ol_in ok h k m
    have lt := nd_le t u
    rw [show nd t u = ((nd t u).1, some l) from Prod.ext rfl e]
    exact rp_n1 (by show (nd t u).1 < 1000; omega) (by omega) fun x hx => ok.nm x (h2 x hx)
end K6

namespace K6
open PySem PySem.Spec PyProof.Rows L2 Hb St Sq Ow En Zp RZ Rd Xb Da Lo Cq LamX Lc Lp Lg Sk Ty Rp
/-! ### the law -/
abbrev s_law : Stmt := top 51
theorem sc_law : FnScope ["script", "k", "box", "names", "one", "kind", "other", "turn", "at", "told", "is_same", "naming"] ["script"] (defScope s_law) := ⟨rfl, rfl, rfl, by decide +kernel, rfl, by decide +kernel, by decide +kernel⟩
/-- a def whose body knows that nothing is being shown -/
theorem go_ok {P : Program} {w : World} {K : PySem.W.Frag} {mg : Str → Option Value} {base : Heap} {x qual : Str} {st : Stmt} {f : Addr} {fd : FuncData} {N ps : List Str} {k : Nat} {sp : Sp} (F : Fun K x qual st f fd) (S : FnScope N ps (defScope st)) (many : ∀ vs H Q E, sp vs H Q E → vs.length = ps.length)
    (inside : ∀ (cdv : Value) (A : Around) (outer : List Env) (s : Shared) (H : Hp) (vs : List V) (Q : VK) (E : XK), Room k (A.deeper (envOfC qual (defScope st) s.heap.objs.size f cdv)) → Gu.Free (A.deeper (envOfC qual (defScope st) s.heap.objs.size f cdv)) → sp vs H Q E →
      ∃ t, PSs (cxOf CX0 P w K mg base N qual (defScope st) f cdv A outer s H E).nox (defBody st) t ∧ t { nx := fun _ H' => Q .non H', rt := Q } (start N vs) H) : Gu.FnG P w K mg base CX0 (k + 1) f fd ps sp := by
  obtain ⟨oc, od, kV, doc, pm, an, cdv, ct, osl, rfl, lk, hcd⟩ := F.ex
  refine Gu.mk_go lk hcd S many fun A outer s H vs Q E hr fr hs => ?_
  obtain ⟨t, h, q⟩ := inside cdv A outer s H vs Q E hr fr hs
  exact ⟨t, h.nox, q⟩
theorem sqlExt {K : PySem.W.Frag} {H H' : Hp} {a : Addr} {xs : List V} (h : SqL K H a xs) (x : ExtN H H') : SqL K H' a xs := by
  rcases h with (h | ⟨o, h⟩) | h
  · exact .inl (.inl (x _ _ h fun ps z => by cases z))
  · exact .inl (.inr ⟨o, x _ _ h fun ps z => by cases z⟩)
  · exact .inr h
theorem BoxAt.ext {H H' : Hp} {p : Addr} (b : BoxAt H p) (x : ExtN H H') : BoxAt H' p := let ⟨g, s, n, e, r⟩ := b; ⟨g, s, n, x _ _ e (fun ps z => by cases z), r⟩
theorem sub_sm {ns l : List Str} (nok : NsOk ns) (h : l.length ≤ 4) (k : ∀ x ∈ l, x ∈ ns) : Sm1 (lD l) := by
  refine ⟨by rw [List.length_map]; omega, fun d hd => ?_⟩
  obtain ⟨x, hx, rfl⟩ := List.mem_map.mp hd
  have := (nok.nm x (k x hx)).2.1
  show x.length ≤ 1000
  omega
/-- what stands from the drawing of both tales on -/
structure WW (T : List (Addr × Str)) (p l oa ob : Addr) (ns : List Str) (t u : Tale) (H0 H : Hp) : Prop where
  hp : H0 p = none
  x : ExtN H0 H
  hb : BoxAt H p
  tb : Tabs T H
  el : H l = some (.lst (ns.map V.str))
  lp : l ≠ p
  ta : TalH H (.ref oa) t
  tu : TalH H (.ref ob) u
section
variable {T : List (Addr × Str)} {p l oa ob : Addr} {ns : List Str} {t u : Tale} {H0 H H' : Hp}
theorem WW.kept (w : WW T p l oa ob ns t u H0 H) (k : Kept p H H') (b : BoxAt H' p) : WW T p l oa ob ns t u H0 H' := ⟨w.hp, fun c o e n => k _ _ (w.x _ _ e n) (ne_of_none e w.hp), b, tabs_kept w.tb w.hb k, k _ _ w.el w.lp, w.lp, w.ta.on (w.hb.kept k), w.tu.on (w.hb.kept k)⟩
theorem WW.same (w : WW T p l oa ob ns t u H0 H) (s : Same H H') : WW T p l oa ob ns t u H0 H' := w.kept (kept_same s) (w.hb.same s)
theorem WW.ext (w : WW T p l oa ob ns t u H0 H) (x : ExtN H H') (tb : Tabs T H') : WW T p l oa ob ns t u H0 H' := ⟨w.hp, w.x.trans x, w.hb.ext x, tb, x _ _ w.el (fun ps z => by cases z), w.lp, w.ta.on (.ext x), w.tu.on (.ext x)⟩
end
section
variable {P : Program} {w : World} {K : PySem.W.Frag} {mg : Str → Option Value} {base : Heap}
def spLaw (K : PySem.W.Frag) (T : List (Addr × Str)) : Sp := fun vs H Q _ => ∃ (a : Addr) (ns : List Int), vs = [.ref a] ∧ SqL K H a (ns.map V.int) ∧ ns.length ≤ 63 ∧ Tabs T H ∧ ∀ H', Q (.bl true) H'
theorem ok_law {f C : Addr} {fd : FuncData} {T : List (Addr × Str)} (F : Fun K "law" "law" s_law f fd) (C__law_box : Cl P w K mg base "_law_box" ["script", "k"] [] 1 (spBox K)) (C__law_changed : Cl P w K mg base "_law_changed" ["box", "tale", "names"] [] 3 (spChanged K)) (C__law_matched : Cl P w K mg base "_law_matched" ["one", "other"] [] 1 (spMatched K)) (C__law_names : Cl P w K mg base "_law_names" ["box", "many"] [] 3 spNames) (C__law_needed : Cl P w K mg base "_law_needed" ["one", "other"] [] 5 (spLNeed K T)) (C__law_refused_right : Cl P w K mg base "_law_refused_right" ["box", "one", "other"] [] 11 (spRefus T)) (C__law_take : Cl P w K mg base "_law_take" ["box", "many"] [] 1 spTake) (C__law_tale : Cl P w K mg base "_law_tale" ["box", "names", "most"] [] 3 spTale)
    (C_heard_tones : Cx_ P w K mg base "heard_tones" ["lots", "bells", "naming"] 5 (spHeardT K)) (C_lots_matched : Cx_ P w K mg base "lots_matched" ["one", "other"] 5 (spMat K C)) (C_tones_needed : Cx_ P w K mg base "tones_needed" ["one", "other"] 8 (spNeeded K C T))
    (K_lots_matched : CkX P w K mg base "lots_matched" ["one", "other"] ["other", "one"] (fun _ zs => zs.reverse) 5 (spMat K C)) (K_tones_needed : CkX P w K mg base "tones_needed" ["one", "other"] ["other", "one"] (fun _ zs => zs.reverse) 8 (spNeeded K C T))
    (n_len : mg "len" = none) (n_max : mg "max" = none) (n_min : mg "min" = none) (n_range : mg "range" = none) (n_repr : mg "repr" = none) (n_sorted : mg "sorted" = none) (n_tuple : mg "tuple" = none) : Gu.FnG P w K mg base CX0 12 f fd ["script"] (spLaw K T) := by
  refine go_ok F sc_law (fun vs H Q E h => ?_) (fun cdv A outer s H vs Q E hr fr h => ?_)
  · obtain ⟨_, _, rfl, _⟩ := h
    rfl
  · obtain ⟨a0, nsI, rfl, h0, l0, tb0, q⟩ := h
    refine ⟨_, (Evl.pss_cut (ps_for PassesOwn.never rfl (pi_range1 (by rfl) n_range (pa_cons (pe_callB (call_max2 rfl) (by rfl) n_max PyProof.Rows.boot_max (pa_cons pe_int (pa_cons (pe_callB (call_min2 rfl) (by rfl) n_min (by decide +kernel) (pa_cons pe_int (pa_cons (pe_callB call_len_seq (by rfl) n_len PySem.boot_len (pa_cons (pv 0) pa_nil)) pa_nil))) pa_nil))) pa_nil)) (pg_name (i := 1) sc_law.nd rfl (Or.inl rfl))
      (Evl.pss_cut (ps_set (i := 2) sc_law.nd rfl (Or.inl rfl) (pe_use C__law_box (hr.mono (by decide)) rfl (pa_cons (pv 0) (pa_cons (pv 1) pa_nil))))
    (Evl.pss_cut (ps_set (i := 3) sc_law.nd rfl (Or.inl rfl) (pe_use C__law_names (hr.mono (by decide)) rfl (pa_cons (pv 2) (pa_cons (pe_op op_add pe_int (pe_use C__law_take (hr.mono (by decide)) rfl (pa_cons (pv 2) (pa_cons pe_int pa_nil)))) pa_nil))))
    (Evl.pss_cut (ps_set (i := 4) sc_law.nd rfl (Or.inl rfl) (pe_use C__law_tale (hr.mono (by decide)) rfl (pa_cons (pv 2) (pa_cons (pv 3) (pa_cons pe_int pa_nil)))))
    (Evl.pss_cut (ps_par (i := 5) (j := 6) (by rfl) sc_law.nd rfl rfl (by decide) rfl rfl (pa_cons (pe_use C__law_take (hr.mono (by decide)) rfl (pa_cons (pv 2) (pa_cons pe_int pa_nil))) (pa_cons (pv 4) pa_nil)) (by rfl))
    (Evl.pss_cut (ps_if (pt_cmpR op_eq (pv 5) pe_int (nomark _)) (pss_one (ps_set (i := 6) sc_law.nd rfl (Or.inl rfl) (pe_use C__law_tale (hr.mono (by decide)) rfl (pa_cons (pv 2) (pa_cons (pv 3) (pa_cons pe_int pa_nil)))))) (pss_one (ps_if (pt_cmpR op_eq (pv 5) pe_int (nomark _)) (pss_one (ps_set (i := 6) sc_law.nd rfl (Or.inl rfl) (pe_use C__law_changed (hr.mono (by decide)) rfl (pa_cons (pv 2) (pa_cons (pv 4) (pa_cons (pv 3) pa_nil)))))) (pss_one (ps_for PassesOwn.never rfl (pi_range1 (by rfl) n_range (pa_cons (pe_op op_add pe_int (pe_use C__law_take (hr.mono (by decide)) rfl (pa_cons (pv 2) (pa_cons pe_int pa_nil)))) pa_nil)) (pg_name (i := 7) sc_law.nd rfl (Or.inl rfl))
      (pss_cons (ps_set (i := 8) sc_law.nd rfl (Or.inl rfl) (pe_use C__law_take (hr.mono (by decide)) rfl (pa_cons (pv 2) (pa_cons (pe_callB (call_max2 rfl) (by rfl) n_max PyProof.Rows.boot_max (pa_cons pe_int (pa_cons (pe_callB call_len_seq (by rfl) n_len PySem.boot_len (pa_cons (pv 4) pa_nil)) pa_nil))) pa_nil))))
    (pss_one (ps_set (i := 6) sc_law.nd rfl (Or.inl rfl) (pe_op op_catA (pe_op op_catA (pe_op op_catA (pe_slice (r := rSlA K) sl_tupA (pv 6) po_none (po_some (pv 8))) (pe_slice (r := rSlA K) sl_tupA (pv 6) (po_some (pe_op op_add (pv 8) pe_int)) (po_some (pe_op op_add (pv 8) pe_int)))) (pe_slice (r := rSlA K) sl_tupA (pv 6) (po_some (pv 8)) (po_some (pe_op op_add (pv 8) pe_int)))) (pe_slice (r := rSlA K) sl_tupA (pv 6) (po_some (pe_op op_add (pv 8) pe_int)) po_none))))))))))
    (Evl.pss_cut (ps_asg (pe_tup (pa_cons (pe_useX C_tones_needed (hr.mono (by decide)) (fun σ => passAt L2.takes0 σ) rfl (pa_cons (pv 4) (pa_cons (pv 6) pa_nil))) (pa_cons (pe_cmpR (op_eqD hr.units) (pe_callB (cr_sortTD hr.units) (by rfl) n_sorted (by decide +kernel) (pa_cons (pv 4) pa_nil)) (pe_callB (cr_sortTD hr.units) (by rfl) n_sorted (by decide +kernel) (pa_cons (pv 6) pa_nil)) (nomark _)) pa_nil))) (pg_tup rfl (pgs_cons (pg_name (i := 9) sc_law.nd rfl (Or.inr rfl)) (pgs_cons (pg_name (i := 10) sc_law.nd rfl (Or.inl rfl)) pgs_nil))))
    (Evl.pss_cut (ps_if (PW.pt (pw_or (pt_cmpR op_ne (pe_callB (Gu.cr_repr fr hr.units) (by rfl) n_repr (by decide +kernel) (pa_cons (pv 9) pa_nil)) (pe_callB (Gu.cr_repr fr hr.units) (by rfl) n_repr (by decide +kernel) (pa_cons (pe_use C__law_needed (hr.mono (by decide)) rfl (pa_cons (pv 4) (pa_cons (pv 6) pa_nil))) pa_nil)) (nomark _)) (pw_or1 (pt_cmpR op_ne (pe_callB (Gu.cr_repr fr hr.units) (by rfl) n_repr (by decide +kernel) (pa_cons (pe_useKX K_tones_needed (hr.mono (by decide)) (passes_call L2.takes0 fun _ _ _ _ h => h) rfl (pk_cons (pv 4) (pk_cons (pv 6) pk_nil))) pa_nil)) (pe_callB (Gu.cr_repr fr hr.units) (by rfl) n_repr (by decide +kernel) (pa_cons (pv 9) pa_nil)) (nomark _))))) (pss_one (ps_ret pe_bl)) pss_nil)
    (Evl.pss_cut (ps_if (pt_cmpR op_ne (pv 10) (pe_cmpR op_ne (pe_ix ix_tup (pv 9) pe_int (fun _ _ => rfl)) pe_int (nomark _)) (nomark _)) (pss_one (ps_ret pe_bl)) pss_nil)
    (Evl.pss_cut (ps_if (PW.pt (pw_or (pt_cmpR op_ne (pe_callB (Gu.cr_repr fr hr.units) (by rfl) n_repr (by decide +kernel) (pa_cons (pe_useX C_lots_matched (hr.mono (by decide)) (fun σ => passAt L2.takes0 σ) rfl (pa_cons (pv 4) (pa_cons (pv 6) pa_nil))) pa_nil)) (pe_callB (Gu.cr_repr fr hr.units) (by rfl) n_repr (by decide +kernel) (pa_cons (pe_use C__law_matched (hr.mono (by decide)) rfl (pa_cons (pv 4) (pa_cons (pv 6) pa_nil))) pa_nil)) (nomark _)) (pw_or1 (pt_cmpR op_eq (pe_cmpR op_isN (pe_useKX K_lots_matched (hr.mono (by decide)) (passes_call L2.takes0 fun _ _ _ _ h => h) rfl (pk_cons (pv 4) (pk_cons (pv 6) pk_nil))) pe_non (nomark _)) (pv 10) (nomark _))))) (pss_one (ps_ret pe_bl)) pss_nil)
    (Evl.pss_cut (ps_if (pt_cmpR op_gt (pe_ix ix_tup (pv 9) pe_int (fun _ _ => rfl)) pe_int (nomark _)) (pss_cons (ps_set (i := 11) sc_law.nd rfl (Or.inl rfl) (pe_callTy call_tuple_of (by rfl) n_tuple (by decide +kernel) (pa_cons (pe_lc (own := [("at", 8)]) (g := gName 8) rfl sc_law.nd (pi_range1 (by rfl) n_range (pa_cons (pe_callB call_len_seq (by rfl) n_len PySem.boot_len (pa_cons (pe_ix ix_tup (pv 9) pe_int (fun _ _ => rfl)) pa_nil)) pa_nil)) (blkOk_by (N := ["script", "k", "box", "names", "one", "kind", "other", "turn", "at", "told", "is_same", "naming"]) (sc := defScope s_law) (by decide +kernel)) (fun _ _ _ _ _ => pg_name (i := 8) sc_law.nd rfl (Or.inl rfl)) (fun _ _ _ _ _ => pts_nil) (fun _ _ _ _ _ => pe_op op_add pe_int (pe_op op_mul (pv 8) (pe_op op_sub (pe_ix (r := rIxT K) ix_tup (pv 9) pe_int (fun _ _ => rfl)) pe_int)))) pa_nil)))
    (pss_one (ps_if (pt_cmpR (op_eqD hr.units) (pe_useX C_heard_tones (hr.mono (by decide)) (fun σ => passAt L2.takes0 σ) rfl (pa_cons (pv 4) (pa_cons (pe_ix ix_tup (pv 9) pe_int (fun _ _ => rfl)) (pa_cons (pv 11) pa_nil)))) (pe_useX C_heard_tones (hr.mono (by decide)) (fun σ => passAt L2.takes0 σ) rfl (pa_cons (pv 6) (pa_cons (pe_ix ix_tup (pv 9) pe_int (fun _ _ => rfl)) (pa_cons (pv 11) pa_nil)))) (nomark _)) (pss_one (ps_ret pe_bl)) pss_nil))) pss_nil)
    (pss_one (ps_if (pt_not (pt_val (pe_use C__law_refused_right (hr.mono (by decide)) rfl (pa_cons (pv 2) (pa_cons (pv 4) (pa_cons (pv 6) pa_nil)))))) (pss_one (ps_ret pe_bl)) pss_nil)))))))))))))
    (pss_one (ps_ret pe_bl))), ?_⟩
    let St0 : L2.St → Prop := fun σ => ∃ o1 o2 o3 o4 o5 o6 o7 o8 o9 o10 o11, σ = [some (.ref a0), o1, o2, o3, o4, o5, o6, o7, o8, o9, o10, o11]
    refine ⟨fun σ H' => True, ?_, fun σ H' _ => q H'⟩
    refine ⟨_, rfl, a0, _, rfl, .inl h0, _, _, rfl, _, _, rfl, ?_⟩
    rw [List.length_map]
    refine ⟨_, rfl, by split <;> split <;> omega, by split <;> split <;> omega, ?_⟩
    generalize hN : (Int.toNat _) = N
    have hN' : N ≤ 100 := by
      rw [← hN]
      split <;> split <;> omega
    clear hN
    refine for_range (n := N) (fun i σ H' => St0 σ ∧ ExtN H H' ∧ Tabs T H') ⟨⟨none, none, none, none, none, none, none, none, none, none, none, rfl⟩, ExtN.refl _, tb0⟩ ?_ (fun _ _ _ => trivial)
    rintro i σ H0 hi ⟨⟨o1, o2, o3, o4, o5, o6, o7, o8, o9, o10, o11, rfl⟩, x0, tb⟩
    have sq0 := sqlExt h0 x0
    have fin : ∀ σ H', St0 σ → ExtN H0 H' → Tabs T H' → St0 σ ∧ ExtN H H' ∧ Tabs T H' := fun σ H' st x t => ⟨st, x0.trans x, t⟩
    rw [show (0 : Int) + (i : Nat) = (i : Nat) by omega]
    -- box
    refine ⟨fun σ H' => ∃ p, σ = [some (.ref a0), some (.int (i : Nat)), some (.ref p), o3, o4, o5, o6, o7, o8, o9, o10, o11] ∧ H0 p = none ∧ Same H0 H' ∧ BoxAt H' p, ?_, ?_⟩
    · exact ⟨_, rfl, _, rfl, a0, nsI, (i : Nat), rfl, ⟨by omega, by omega⟩, sq0, l0, fun p H1 hp s1 b1 => ⟨p, rfl, hp, s1, b1⟩⟩
    rintro σ H1 ⟨p, rfl, hp, s1, b1⟩
    have tb1 := tb.ext s1
    have keep : ∀ {H'}, Kept p H1 H' → ExtN H0 H' := fun {H'} k b o e n => k _ _ (s1 _ _ e) (ne_of_none e hp)
    -- names
    refine ⟨fun σ H' => ∃ l nsm, σ = [some (.ref a0), some (.int (i : Nat)), some (.ref p), some (.ref l), o4, o5, o6, o7, o8, o9, o10, o11] ∧ l ≠ p ∧ Kept p H1 H' ∧ BoxAt H' p ∧ H' l = some (.lst (nsm.map V.str)) ∧ NsOk nsm, ?_, ?_⟩
    · refine ⟨_, rfl, _, rfl, p, 4, rfl, ⟨by decide, by decide⟩, b1, fun d H2 d0 d1 k2 b2 => ⟨_, _, rfl, rfl, p, 1 + d, rfl, ⟨by omega, by omega⟩, b2, fun l nsm H3 lp k3 b3 el nok => ?_⟩⟩
      exact ⟨l, nsm, rfl, lp, k2.trans k3, b3, el, nok⟩
    rintro σ H3 ⟨l, nsm, rfl, lp, k3, b3, el, nok⟩
    -- one
    refine ⟨fun σ H' => ∃ oa t, σ = [some (.ref a0), some (.int (i : Nat)), some (.ref p), some (.ref l), some (.ref oa), o5, o6, o7, o8, o9, o10, o11] ∧ Kept p H1 H' ∧ BoxAt H' p ∧ H' l = some (.lst (nsm.map V.str)) ∧ TalH H' (.ref oa) t ∧ TlIn nsm t ∧ t.length ≤ 7, ?_, ?_⟩
    · refine ⟨_, rfl, _, rfl, p, l, nsm, rfl, b3, el, lp, nok, fun oa t H4 k4 b4 ht ti tn => ?_⟩
      exact ⟨oa, t, rfl, k3.trans k4, b4, k4 _ _ el lp, ht, ti, tn⟩
    clear el b3 k3
    rintro σ H4 ⟨oa, t, rfl, k4, b4, el, ht, ti, tn⟩
    have w4 : WW T p l oa oa nsm t t H0 H4 := ⟨hp, keep k4, b4, tabs_kept tb1 b1 k4, el, lp, ht, ht⟩
    clear el b4 k4 ht
    -- kind, other
    refine ⟨fun σ H' => ∃ kd : Int, σ = [some (.ref a0), some (.int (i : Nat)), some (.ref p), some (.ref l), some (.ref oa), some (.int kd), some (.ref oa), o7, o8, o9, o10, o11] ∧ WW T p l oa oa nsm t t H0 H', ?_, ?_⟩
    · refine ⟨_, rfl, p, 4, rfl, ⟨by decide, by decide⟩, w4.hb, fun d H5 d0 d1 k5 b5 => ⟨_, rfl, _, _, rfl, d, rfl, w4.kept k5 b5⟩⟩
    clear w4
    rintro σ H5 ⟨kd, rfl, w5⟩
    -- other
    refine ⟨fun σ H' => ∃ ob u o7 o8, σ = [some (.ref a0), some (.int (i : Nat)), some (.ref p), some (.ref l), some (.ref oa), some (.int kd), some (.ref ob), o7, o8, o9, o10, o11] ∧ WW T p l oa ob nsm t u H0 H' ∧ TlIn nsm u ∧ u.length ≤ 10, ?_, ?_⟩
    · refine ⟨_, rfl, rfl, _, rfl, iteD (fun _ => ?_) fun _ => ?_⟩
      · refine ⟨_, rfl, _, rfl, p, l, nsm, rfl, w5.hb, w5.el, lp, nok, fun ob u H6 k6 b6 hu ui un => ?_⟩
        have w6 := w5.kept k6 b6
        exact ⟨ob, u, _, _, rfl, ⟨w6.hp, w6.x, w6.hb, w6.tb, w6.el, w6.lp, w6.ta, hu⟩, ui, by omega⟩
      · refine ⟨_, rfl, rfl, _, rfl, iteD (fun _ => ?_) fun _ => ?_⟩
        · refine ⟨_, rfl, _, rfl, _, rfl, p, l, .ref oa, nsm, t, rfl, w5.hb, w5.ta, ti, tn, w5.el, lp, nok, fun ob u H6 k6 b6 hu ui un => ?_⟩
          have w6 := w5.kept k6 b6
          exact ⟨ob, u, _, _, rfl, ⟨w6.hp, w6.x, w6.hb, w6.tb, w6.el, w6.lp, w6.ta, hu⟩, ui, un⟩
        · refine ⟨_, rfl, p, 4, rfl, ⟨by decide, by decide⟩, w5.hb, fun d H6 d0 d1 k6 b6 => ?_⟩
          refine ⟨_, _, rfl, rfl, ?_⟩
          refine ⟨_, rfl, by omega, by omega, ?_⟩
          generalize (Int.toNat _) = N2
          refine for_range (n := N2) (fun j σ H' => ∃ ob u o7 o8, σ = [some (.ref a0), some (.int (i : Nat)), some (.ref p), some (.ref l), some (.ref oa), some (.int kd), some (.ref ob), o7, o8, o9, o10, o11] ∧ WW T p l oa ob nsm t u H0 H' ∧ TlIn nsm u ∧ u.length ≤ 7) ⟨oa, t, _, _, rfl, w5.kept k6 b6, ti, tn⟩ ?_ (fun σ H' ⟨ob, u, o7, o8, e, w, ui, un⟩ => ⟨ob, u, o7, o8, e, w, ui, by omega⟩)
          rintro j σ H7 hj ⟨ob, u, o7, o8, rfl, w7, ui, un⟩
          obtain ⟨_, its, ea, eo, al⟩ := w7.ta
          cases ea
          refine ⟨_, rfl, _, rfl, oa, its, rfl, .inr (SqT.of eo), _, _, rfl, p, _, rfl, ?_, w7.hb, fun aa H8 a1 a2 k8 b8 => ?_⟩
          · rw [al.len]; split <;> omega
          have w8 := w7.kept k8 b8
          clear w7 eo al
          obtain ⟨n, rfl⟩ := Int.eq_ofNat_of_zero_le a1
          have n1 : some (((n : Nat) : Int) + 1) = (some (n + 1)).map fun n : Nat => ((n : Nat) : Int) := rfl
          have n2 : some (((n : Nat) : Int) + 2) = (some (n + 2)).map fun n : Nat => ((n : Nat) : Int) := rfl
          have cl : ∀ i j, (cutN u i j).length ≤ 7 := fun i j => by
            unfold cutN
            split
            · rw [List.length_drop, List.length_take]; omega
            · rw [List.length_drop]; omega
          refine ⟨_, rfl, _, rfl, _, rfl, rd_slTal none (some n) rfl rfl w8.tu fun p1 H9 s9 g1 => ?_⟩
          have w9 := w8.same s9
          refine ⟨_, rfl, _, rfl, _, _, rfl, rfl, _, rfl, _, rfl, _, _, rfl, rfl, _, rfl, rd_slTal (some (n + 1)) (some (n + 2)) n1 n2 w9.tu fun p2 H10 s10 g2 => ?_⟩
          have w10 := w9.same s10
          refine rd_catTal (g1.same s10) g2 (by have := cl none (some n); have := cl (some (n + 1)) (some (n + 2)); omega) fun p3 H11 s11 g3 => ?_
          have w11 := w10.same s11
          refine ⟨_, rfl, _, rfl, _, rfl, _, rfl, _, _, rfl, rfl, _, rfl, rd_slTal (some n) (some (n + 1)) rfl n1 w11.tu fun p4 H12 s12 g4 => ?_⟩
          have w12 := w11.same s12
          refine rd_catTal (g3.same s12) g4 (by rw [List.length_append]; have := cl none (some n); have := cl (some (n + 1)) (some (n + 2)); have := cl (some n) (some (n + 1)); omega) fun p5 H13 s13 g5 => ?_
          have w13 := w12.same s13
          refine ⟨_, rfl, _, rfl, _, _, rfl, rfl, _, rfl, ?_⟩
          dsimp only [tNoPart]
          refine rd_slTal (some (n + 2)) none n2 rfl w13.tu fun p6 H14 s14 g6 => ?_
          have w14 := w13.same s14
          refine rd_catTal (g5.same s14) g6 (by rw [List.length_append, List.length_append]; have := cl none (some n); have := cl (some (n + 1)) (some (n + 2)); have := cl (some n) (some (n + 1)); have := cl (some (n + 2)) none; omega) fun p7 H15 s15 g7 => ?_
          have w15 := w14.same s15
          exact ⟨p7, swpT u n, _, _, rfl, ⟨w15.hp, w15.x, w15.hb, w15.tb, w15.el, w15.lp, w15.ta, g7⟩, swp_in ui n, Nat.le_trans (swp_len u n) un⟩
    clear w5
    rintro σ H6 ⟨ob, u, o7, o8, rfl, w6, ui, un⟩
    have tn' : t.length ≤ 10 := by omega
    have twoW : ∀ {H'}, WW T p l oa ob nsm t u H0 H' → Two K H' (.ref oa) (.ref ob) (tD t) (tD u) t u := fun w => two_of nok ti ui tn' un w.ta w.tu
    have twoV : ∀ {H'}, WW T p l oa ob nsm t u H0 H' → Two K H' (.ref ob) (.ref oa) (tD u) (tD t) u t := fun w => two_of nok ui ti un tn' w.tu w.ta
    have no12 := no_first (tale_D nok ti) (tale_D nok ui)
    have no21 := no_first (tale_D nok ui) (tale_D nok ti)
    have okT := ti.ok nok (show t.length ≤ 100 by omega)
    have okU := ui.ok nok (show u.length ≤ 100 by omega)
    have rpN := nd_rp nok ti ui
    have l4 := rung_len nok ti ui
    have lnN := names_len nok ti ui tn' un
    let S : Option V → Option V → Option V → Option V → L2.St := fun o8 o9 o10 o11 => [some (.ref a0), some (.int (i : Nat)), some (.ref p), some (.ref l), some (.ref oa), some (.int kd), some (.ref ob), o7, o8, o9, o10, o11]
    -- told, is_same
    refine ⟨fun σ H' => ∃ r, σ = S o8 (some (.ref r)) (some (.bl (decide (t.Perm u)))) o11 ∧ WW T p l oa ob nsm t u H0 H' ∧ NdH H' (.ref r) (nd t u), ?_, ?_⟩
    · refine ⟨_, rfl, _, rfl, .ref oa, .ref ob, tD t, tD u, t, u, rfl, twoW w6, w6.tb, fun _ r H7 x7 t7 hn => ?_, fun k hk => by rw [no12] at hk; cases hk⟩
      have w7 := w6.ext x7 t7
      refine ⟨_, rfl, ?_⟩
      dsimp only [tNil]
      refine sort_tal w7.ta ti.ne fun p1 H8 s8 g1 => ?_
      have w8 := w7.same s8
      refine ⟨_, rfl, ?_⟩
      dsimp only [tNil]
      refine sort_tal w8.tu ui.ne fun p2 H9 s9 g2 => ?_
      have w9 := w8.same s9
      have hn9 := (hn.on (.same s8)).on (.same s9)
      refine rd_eqLos (g1.same s9) g2 (fun m hm => okT.nm m ((List.mergeSort_perm _ _).mem_iff.mp hm)) (fun m hm => okU.nm m ((List.mergeSort_perm _ _).mem_iff.mp hm)) ?_
      rw [sort_same]
      refine ⟨by show 2 ≤ sizeLine; decide, fun tp ktp => ⟨tp, _, rfl, SqT.of upd_same, rfl, _, _, rfl, _, _, rfl, rfl, ?_⟩⟩
      have s10 := same_new ktp (.tup [V.ref r, .bl (decide (t.Perm u))])
      exact ⟨r, rfl, w9.same s10, hn9.on (.same s10)⟩
    clear w6
    rintro σ H7 ⟨r, rfl, w7, hn7⟩
    let S7 : L2.St := S o8 (some (.ref r)) (some (.bl (decide (t.Perm u)))) o11
    -- as told by the law
    refine ⟨fun σ H' => σ = S7 ∧ WW T p l oa ob nsm t u H0 H' ∧ NdH H' (.ref r) (nd t u), ?_, ?_⟩
    · refine ⟨_, rfl, _, _, rfl, hn7.dp, rpN.sh, rpN.nd, rpN.dp, rpN.ln, ?_⟩
      refine ⟨_, rfl, _, rfl, .ref oa, .ref ob, t, u, rfl, w7.ta, w7.tu, okT, okU, lnN, l4, w7.tb, fun r2 H8 x8 t8 hn2 => ?_⟩
      have w8 := w7.ext x8 t8
      have hn8 := hn7.on (.ext x8)
      refine ⟨_, _, rfl, hn2.dp, rpN.sh, rpN.nd, rpN.dp, rpN.ln, rfl, _, rfl, ?_⟩
      rw [decide_eq_true rfl]
      refine iteF ?_
      refine ⟨_, rfl, _, rfl, rfl, rfl, .ref ob, .ref oa, tD u, tD t, u, t, rfl, twoV w8, w8.tb, fun _ r3 H9 x9 t9 hn3 => ?_, fun k hk => by rw [no21] at hk; cases hk⟩
      have w9 := w8.ext x9 t9
      have hn9 := hn8.on (.ext x9)
      rw [nd_swap] at hn3
      refine ⟨_, _, rfl, hn3.dp, rpN.sh, rpN.nd, rpN.dp, rpN.ln, _, rfl, _, _, rfl, hn9.dp, rpN.sh, rpN.nd, rpN.dp, rpN.ln, rfl, _, rfl, ?_⟩
      rw [decide_eq_true rfl]
      exact iteF ⟨rfl, w9, hn9⟩
    clear w7 hn7
    rintro σ H8 ⟨rfl, w8, hn8⟩
    -- is_same
    refine ⟨fun σ H' => σ = S7 ∧ WW T p l oa ob nsm t u H0 H' ∧ NdH H' (.ref r) (nd t u), ?_, ?_⟩
    · obtain ⟨_, x, er, hr2, _⟩ := id hn8
      cases er
      refine ⟨_, rfl, _, rfl, r, _, 0, _, rfl, rfl, SqT.of hr2, at0, rfl, rfl, _, rfl, ?_⟩
      have e8 : V.bl (decide (t.Perm u)) = V.bl (!decide (V.int ((nd t u).1 : Nat) = V.int 1)) := by
        rw [nd_same ti.good ui.good]
        congr 2
        exact decide_eq_decide.mpr ⟨fun z => by rw [z]; rfl, fun z => by injection z with z; exact Int.ofNat_inj.mp z⟩
      rw [decide_eq_true e8]
      exact iteF ⟨rfl, w8, hn8⟩
    clear w8 hn8
    rintro σ H9 ⟨rfl, w9, hn9⟩
    -- matched
    have rpM := mat_rp (a := t) (b := u) (by omega) (by omega)
    refine ⟨fun σ H' => σ = S7 ∧ WW T p l oa ob nsm t u H0 H' ∧ NdH H' (.ref r) (nd t u), ?_, ?_⟩
    · refine ⟨_, rfl, _, rfl, .ref oa, .ref ob, tD t, tD u, t, u, rfl, twoW w9, fun _ x1 H10 s10 hm1 => ?_, fun k hk => by rw [no12] at hk; cases hk⟩
      have w10 := w9.same s10
      have hn10 := hn9.on (.same s10)
      refine ⟨_, _, rfl, hm1.dp, rpM.sh, rpM.nd, rpM.dp, rpM.ln, _, rfl, _, rfl, .ref oa, .ref ob, t, u, rfl, w10.ta, w10.tu, okT, okU, fun x2 H11 s11 hm2 => ?_⟩
      have w11 := w10.same s11
      have hn11 := hn10.on (.same s11)
      refine ⟨_, _, rfl, hm2.dp, rpM.sh, rpM.nd, rpM.dp, rpM.ln, rfl, _, rfl, ?_⟩
      rw [decide_eq_true rfl]
      refine iteF ?_
      refine ⟨_, rfl, _, rfl, rfl, rfl, .ref ob, .ref oa, tD u, tD t, u, t, rfl, twoV w11, fun _ x3 H12 s12 hm3 => ?_, fun k hk => by rw [no21] at hk; cases hk⟩
      have w12 := w11.same s12
      have hn12 := hn11.on (.same s12)
      have em := mat_none u t
      rw [show decide (u.Perm t) = decide (t.Perm u) from decide_eq_decide.mpr ⟨List.Perm.symm, List.Perm.symm⟩] at em
      cases hx : matF u t with
      | none =>
        rw [hx] at hm3 em
        obtain rfl : x3 = .non := hm3
        refine ⟨rfl, _, rfl, rfl, _, rfl, ?_⟩
        rw [← em]
        exact iteF ⟨rfl, w12, hn12⟩
      | some g =>
        rw [hx] at hm3 em
        obtain ⟨r3, rfl, _⟩ := hm3
        refine ⟨rfl, _, rfl, rfl, _, rfl, ?_⟩
        rw [← em]
        exact iteF ⟨rfl, w12, hn12⟩
    clear w9 hn9
    rintro σ H10 ⟨rfl, w10, hn10⟩
    -- heard
    refine ⟨fun σ H' => (∃ o8 o9 o10 o11, σ = S o8 o9 o10 o11) ∧ WW T p l oa ob nsm t u H0 H', ?_, ?_⟩
    · obtain ⟨_, x, er, hr2, ho⟩ := id hn10
      cases er
      refine ⟨_, rfl, r, _, 0, _, rfl, rfl, SqT.of hr2, at0, _, _, rfl, rfl, _, rfl, iteD (fun c => ?_) fun _ => ⟨⟨_, _, _, _, rfl⟩, w10⟩⟩
      obtain ⟨m, em, hm, hc⟩ := need_lot ti.good ui.good (show (nd t u).1 ≠ 0 by omega)
      rw [em] at ho
      obtain ⟨lb, rfl, elb⟩ : ∃ lb, x = .ref lb ∧ H10 lb = some (.tup (m.map V.str)) := ho
      obtain ⟨m4, min_, masc⟩ := ol_in nok ti ui hm
      have k1 : 1 ≤ (nd t u).1 := by omega
      have hne := heard_ne ti.good ui.good hc
      generalize (nd t u).1 = k at hr2 hne k1
      refine ⟨_, rfl, r, _, 1, .ref lb, rfl, rfl, SqT.of hr2, at1, lb, _, rfl, .inr (SqT.of elb), _, rfl, by omega, by rw [List.length_map]; omega, fun D kD => ?_⟩
      refine lc_mf (ds := List.range m.length) (wk_range (a := D)) (fun _ => true) (fun _ y j => y = .int (1 + (j : Int) * ((k : Int) - 1))) trivial kD (by simp) (fun j y j2 H' ey ek s mf => ?_) (fun H11 ys s11 e11 al11 => ?_)
      · obtain ⟨rfl, hj⟩ := rg_at ey
        obtain ⟨hj2, ekj⟩ := List.getElem?_eq_some_iff.mp ek
        rw [List.getElem_range] at ekj
        subst ekj
        refine ⟨rfl, _, rfl, _, rfl, r, _, 0, _, rfl, rfl, SqT.of (s _ _ hr2), at0, _, _, rfl, rfl, _, _, rfl, rfl, ?_, _, _, rfl, rfl, ?_⟩
        · have hj3 : j < 5 := by rw [List.length_range] at hj2; omega
          exact .inl ⟨by omega, by omega⟩
        exact mf_yes mf kD (fun _ _ _ _ _ h => h) ek (by rw [List.length_range]; omega) (Same.refl _) rfl rfl
      rw [Rd.filter_all] at al11
      have ez := al11.map_eq (f := fun j : Nat => V.int (1 + (j : Int) * ((k : Int) - 1))) fun _ _ h => h
      rw [show ((List.range m.length).map fun j : Nat => V.int (1 + (j : Int) * ((k : Int) - 1))) = (namN k m.length).map V.int by unfold namN; rw [List.map_map]; rfl] at ez
      rw [ez] at e11
      refine ⟨D, _, rfl, .inl ⟨SqL.of e11, fun qn kq => ?_⟩⟩
      have s12 := same_new kq (.tup ((namN k m.length).map V.int))
      have eq12 : upd H11 qn (.tup ((namN k m.length).map V.int)) qn = some (.tup ((namN k m.length).map V.int)) := upd_same
      generalize upd H11 qn (.tup ((namN k m.length).map V.int)) = H12 at s12 eq12 ⊢
      have s13 := s11.trans s12
      have w12 := w10.same s13
      have er12 := s13 _ _ hr2
      have el12 := s13 _ _ elb
      have small : ∀ {v : Tale}, TlIn nsm v → ∀ x ∈ v, x.length < 64 := fun h x hx => by have := LotIn.len nok (tlIn_iff.mp h x hx); omega
      have nl : m.length = (namN k m.length).length := (nam_len _ _).symm
      have smm := sub_sm nok m4 min_
      have lom : m ≠ [] → lotD (lD m) = true := fun z => lot_D nok ⟨z, masc, min_⟩
      have ln1 : (namN k m.length).length ≤ 1000 := by rw [nam_len]; omega
      have ps1 : ∀ i ∈ namN k m.length, 0 ≤ i := fun i hi => by have := nam_pos k1 i hi; omega
      refine ⟨_, rfl, _, rfl, r, _, 1, .ref lb, rfl, rfl, SqT.of er12, at1, _, rfl, .ref oa, lb, qn, t, m, namN k m.length, rfl, w12.ta, okT, tale_D nok ti, tale_sm nok ti (by omega), small ti, el12, smm, lom, eq12, nl, ln1, ps1, asc_nodupS masc, fun p1 H13 s14 h1 => ?_⟩
      have w13 := w12.same s14
      refine ⟨_, rfl, _, rfl, r, _, 1, .ref lb, rfl, rfl, SqT.of (s14 _ _ er12), at1, _, rfl, .ref ob, lb, qn, u, m, namN k m.length, rfl, w13.tu, okU, tale_D nok ui, tale_sm nok ui (by omega), small ui, s14 _ _ el12, smm, lom, s14 _ _ eq12, nl, ln1, ps1, asc_nodupS masc, fun p2 H14 s15 h2 => ?_⟩
      refine rd_eqTn (h1.on (.same s15)) h2 ⟨_, rfl, ?_⟩
      rw [decide_eq_false hne]
      exact iteF ⟨⟨_, _, _, _, rfl⟩, w13.same s15⟩
    clear w10 hn10
    rintro σ H11 ⟨⟨o8, o9, o10, o11, rfl⟩, w11⟩
    refine ⟨_, rfl, _, rfl, _, rfl, p, oa, ob, t, u, nsm, rfl, w11.hb, w11.tb, w11.ta, w11.tu, nok, ti, ui, tn', un, fun H' k tb' => ⟨_, rfl, iteF (fin _ _ ⟨_, _, _, _, _, _, _, _, _, _, _, rfl⟩ (fun b o e n => k _ _ (w11.x _ _ e n) (ne_of_none e w11.hp) n) tb')⟩⟩
end
end K6

namespace K6
open PySem PySem.Spec PyProof.Rows L2 Hb St Sq Ow En Zp RZ Rd Xb Da Lo Cq LamX Lc Lp Lg Sk Ty Rp
theorem all_mk {l : PySem.W.OpenLaw} {w : World} {K : PySem.W.Frag} {h : Heap} {mg : Str → Option Value} {fa f_is_name f_thin_lot f_is_part f_is_lot f_is_tale f_need_tales f_begins_with f_as_lot f_thin_tale f_is_parted f_is_sequence f_need_told f_bells_of f_lots_among f_ordered_lots f_least_ones f_is_integer f_is_number f_is_name_lot f_need_bells f_need_naming f_tones_in f_heard_tones f_how_often f_tones_needed f_lots_matched f__law_take f__law_box f__law_pick f__law_names f__law_tale f__law_changed f__law_heard f__law_matched f__law_needed f__law_at f_law : Addr} (X : K.In h) (G : h.Ns mainGlobals mg) (hfa : mg "law" = some (.ref fa)) {B C : Addr} {tkL : Tok} {N_c fI_c : Addr} {nm_c q_c : Str} {bs_c : List Value} {sn_c : List Str} {sub_c : List Value} {ab_c : Bool} {col_c : Option Bool} {dd_c : Option Addr} {m0_c m1_c m2_c m3_c m5_c : Option Value} {ocI_c dcI_c pmI_c cdI_c ctI_c : Value} {odI_c anI_c : Option Addr} {slI_c : Array (Option Value)} {g_PL c_PL P_PL : Addr} {odPL anPL ddPL : Option Addr} {slPL svPL : Array (Option Value)} {ocPL dcPL pmPL ctPL clPL : Value} {vsPL : Array Value} {g_SL c_SL P_SL : Addr} {odSL anSL ddSL : Option Addr} {slSL svSL : Array (Option Value)} {ocSL kVSL dcSL pmSL ctSL clSL : Value} {vsSL : Array Value} {g_RI c_RI P_RI : Addr} {odRI anRI ddRI : Option Addr} {slRI svRI : Array (Option Value)} {ocRI kVRI dcRI pmRI ctRI clRI : Value} {vsRI : Array Value} {kd_PL : Addr}
    {od0 an0 od1 an1 od2 an2 od3 an3 od4 an4 od5 an5 od6 an6 od7 an7 od8 an8 od9 an9 od10 an10 od11 an11 od12 an12 od13 an13 od14 an14 od15 an15 od16 an16 od17 an17 od18 an18 od19 an19 od20 an20 od21 an21 od22 an22 od23 an23 od24 an24 od25 an25 od26 an26 od27 an27 od28 an28 od29 an29 od30 an30 od31 an31 od32 an32 od33 an33 od34 an34 od35 an35 od36 an36 : Option Addr} {sl0 sl1 sl2 sl3 sl4 sl5 sl6 sl7 sl8 sl9 sl10 sl11 sl12 sl13 sl14 sl15 sl16 sl17 sl18 sl19 sl20 sl21 sl22 sl23 sl24 sl25 sl26 sl27 sl28 sl29 sl30 sl31 sl32 sl33 sl34 sl35 sl36 : Array (Option Value)} {oc0 kV0 dc0 pm0 cd0 ct0 oc1 kV1 dc1 pm1 cd1 ct1 oc2 kV2 dc2 pm2 cd2 ct2 oc3 kV3 dc3 pm3 cd3 ct3 oc4 kV4 dc4 pm4 cd4 ct4 oc5 kV5 dc5 pm5 cd5 ct5 oc6 kV6 dc6 pm6 cd6 ct6 oc7 kV7 dc7 pm7 cd7 ct7 oc8 kV8 dc8 pm8 cd8 ct8 oc9 kV9 dc9 pm9 cd9 ct9 oc10 kV10 dc10 pm10 cd10 ct10 oc11 kV11 dc11 pm11 cd11 ct11 oc12 kV12 dc12 pm12 cd12 ct12 oc13 kV13 dc13 pm13 cd13 ct13 oc14 kV14 dc14 pm14 cd14 ct14 oc15 kV15 dc15 pm15 cd15 ct15 oc16 kV16 dc16 pm16 cd16 ct16 oc17 kV17 dc17 pm17 cd17 ct17 oc18 kV18 dc18 pm18 cd18 ct18 oc19 kV19 dc19 pm19 cd19 ct19 oc20 kV20 dc20 pm20 cd20 ct20 oc21 kV21 dc21 pm21 cd21 ct21 oc22 kV22 dc22 pm22 cd22 ct22 oc23 kV23 dc23 pm23 cd23 ct23 oc24 kV24 dc24 pm24 cd24 ct24 oc25 kV25 dc25 pm25 cd25 ct25 oc26 kV26 dc26 pm26 cd26 ct26 oc27 kV27 dc27 pm27 cd27 ct27 oc28 kV28 dc28 pm28 cd28 ct28 oc29 kV29 dc29 pm29 cd29 ct29 oc30 kV30 dc30 pm30 cd30 ct30 oc31 kV31 dc31 pm31 cd31 ct31 oc32 kV32 dc32 pm32 cd32 ct32 oc33 kV33 dc33 pm33 cd33 ct33 oc34 kV34 dc34 pm34 cd34 ct34 oc35 kV35 dc35 pm35 cd35 ct35 oc36 kV36 dc36 pm36 cd36 ct36 : Value}
    (aB : PySem.W.nsIn K mainGlobals "BellError" = some (some (.ref B)))
    (aC_c : PySem.W.nsIn K mainGlobals "InvalidHeard" = some (some (.ref C)))
    (xL_c : K.lookup C = some (PySem.excClassObj nm_c q_c C N_c bs_c [.ref B, .type "Exception", .type "BaseException", .type "object"] true sn_c sub_c ab_c col_c dd_c m0_c m1_c m2_c m3_c m5_c "Exception.__new__"))
    (sa_c : PySem.W.findIn K (.ref C) "__setattr__" = some (some (.builtin "object.__setattr__")))
    (ga_c : PySem.W.findIn K (.ref C) "__getattribute__" = some (some (.builtin "BaseException.__getattribute__")))
    (gg_c : PySem.W.findIn K (.ref C) "__getattr__" = some none)
    (nb_c : PySem.W.findIn K (.ref C) "at" = some none)
    (aI_c : PySem.W.findIn K (.ref C) "__init__" = some (some (.ref fI_c)))
    (tI_c : PySem.W.typeIn K (.ref fI_c) = some (.type "function"))
    (lI_c : K.lookup fI_c = some ⟨ocI_c, odI_c, .func (PySem.W.fnOf "__init__" "InvalidHeard.__init__" (Xb.iA ⟨6, 17, 6, 21⟩ ⟨6, 23, 6, 25⟩) (Xb.iB ⟨7, 8, 7, 12⟩ ⟨7, 8, 7, 15⟩ ⟨7, 18, 7, 20⟩ ⟨7, 8, 7, 20⟩) Xb.iS .none .none dcI_c pmI_c anI_c cdI_c ctI_c), slI_c⟩)
    (cI_c : PySem.W.codeIn K cdI_c "InvalidHeard.__init__" = true)
    (kC_c : PySem.W.keepIn K (.ref C) = true)
    (eC_c : PySem.W.subIn K (.ref C) (.type "BaseException") = some true)
    (tC_c : PySem.W.typeIn K (.ref C) = some (.type "type"))
    (hC_c : PySem.W.hasDictIn K C = true)
    (sC_c : PySem.W.subIn K (.ref C) (.ref C) = some true)
    (a0 : PySem.W.nsIn K mainGlobals "is_name" = some (some (.ref f_is_name)))
    (l0 : K.lookup f_is_name = some ⟨oc0, od0, .func (PySem.W.fnOf "is_name" "is_name" (defArgs s_is_name) (defBody s_is_name) (defScope s_is_name) .none kV0 dc0 pm0 an0 cd0 ct0), sl0⟩)
    (c0 : PySem.W.codeIn K cd0 "is_name" = true)
    (k0 : PySem.W.keepIn K (.ref f_is_name) = true)
    (a1 : PySem.W.nsIn K mainGlobals "thin_lot" = some (some (.ref f_thin_lot)))
    (l1 : K.lookup f_thin_lot = some ⟨oc1, od1, .func (PySem.W.fnOf "thin_lot" "thin_lot" (defArgs s_thin_lot) (defBody s_thin_lot) (defScope s_thin_lot) .none kV1 dc1 pm1 an1 cd1 ct1), sl1⟩)
    (c1 : PySem.W.codeIn K cd1 "thin_lot" = true)
    (k1 : PySem.W.keepIn K (.ref f_thin_lot) = true)
    (a2 : PySem.W.nsIn K mainGlobals "is_part" = some (some (.ref f_is_part)))
    (l2 : K.lookup f_is_part = some ⟨oc2, od2, .func (PySem.W.fnOf "is_part" "is_part" (defArgs s_is_part) (defBody s_is_part) (defScope s_is_part) .none kV2 dc2 pm2 an2 cd2 ct2), sl2⟩)
    (c2 : PySem.W.codeIn K cd2 "is_part" = true)
    (k2 : PySem.W.keepIn K (.ref f_is_part) = true)
    (a3 : PySem.W.nsIn K mainGlobals "is_lot" = some (some (.ref f_is_lot)))
    (l3 : K.lookup f_is_lot = some ⟨oc3, od3, .func (PySem.W.fnOf "is_lot" "is_lot" (defArgs s_is_lot) (defBody s_is_lot) (defScope s_is_lot) .none kV3 dc3 pm3 an3 cd3 ct3), sl3⟩)
    (c3 : PySem.W.codeIn K cd3 "is_lot" = true)
    (k3 : PySem.W.keepIn K (.ref f_is_lot) = true)
    (a4 : PySem.W.nsIn K mainGlobals "is_tale" = some (some (.ref f_is_tale)))
    (l4 : K.lookup f_is_tale = some ⟨oc4, od4, .func (PySem.W.fnOf "is_tale" "is_tale" (defArgs s_is_tale) (defBody s_is_tale) (defScope s_is_tale) .none kV4 dc4 pm4 an4 cd4 ct4), sl4⟩)
    (c4 : PySem.W.codeIn K cd4 "is_tale" = true)
    (k4 : PySem.W.keepIn K (.ref f_is_tale) = true)
    (a5 : PySem.W.nsIn K mainGlobals "need_tales" = some (some (.ref f_need_tales)))
    (l5 : K.lookup f_need_tales = some ⟨oc5, od5, .func (PySem.W.fnOf "need_tales" "need_tales" (defArgs s_need_tales) (defBody s_need_tales) (defScope s_need_tales) .none kV5 dc5 pm5 an5 cd5 ct5), sl5⟩)
    (c5 : PySem.W.codeIn K cd5 "need_tales" = true)
    (k5 : PySem.W.keepIn K (.ref f_need_tales) = true)
    (a6 : PySem.W.nsIn K mainGlobals "begins_with" = some (some (.ref f_begins_with)))
    (l6 : K.lookup f_begins_with = some ⟨oc6, od6, .func (PySem.W.fnOf "begins_with" "begins_with" (defArgs s_begins_with) (defBody s_begins_with) (defScope s_begins_with) .none kV6 dc6 pm6 an6 cd6 ct6), sl6⟩)
    (c6 : PySem.W.codeIn K cd6 "begins_with" = true)
    (k6 : PySem.W.keepIn K (.ref f_begins_with) = true)
    (a7 : PySem.W.nsIn K mainGlobals "as_lot" = some (some (.ref f_as_lot)))
    (l7 : K.lookup f_as_lot = some ⟨oc7, od7, .func (PySem.W.fnOf "as_lot" "as_lot" (defArgs s_as_lot) (defBody s_as_lot) (defScope s_as_lot) .none kV7 dc7 pm7 an7 cd7 ct7), sl7⟩)
    (c7 : PySem.W.codeIn K cd7 "as_lot" = true)
    (k7 : PySem.W.keepIn K (.ref f_as_lot) = true)
    (a8 : PySem.W.nsIn K mainGlobals "thin_tale" = some (some (.ref f_thin_tale)))
    (l8 : K.lookup f_thin_tale = some ⟨oc8, od8, .func (PySem.W.fnOf "thin_tale" "thin_tale" (defArgs s_thin_tale) (defBody s_thin_tale) (defScope s_thin_tale) .none kV8 dc8 pm8 an8 cd8 ct8), sl8⟩)
    (c8 : PySem.W.codeIn K cd8 "thin_tale" = true)
    (k8 : PySem.W.keepIn K (.ref f_thin_tale) = true)
    (a9 : PySem.W.nsIn K mainGlobals "is_parted" = some (some (.ref f_is_parted)))
    (l9 : K.lookup f_is_parted = some ⟨oc9, od9, .func (PySem.W.fnOf "is_parted" "is_parted" (defArgs s_is_parted) (defBody s_is_parted) (defScope s_is_parted) .none kV9 dc9 pm9 an9 cd9 ct9), sl9⟩)
    (c9 : PySem.W.codeIn K cd9 "is_parted" = true)
    (k9 : PySem.W.keepIn K (.ref f_is_parted) = true)
    (a10 : PySem.W.nsIn K mainGlobals "is_sequence" = some (some (.ref f_is_sequence)))
    (l10 : K.lookup f_is_sequence = some ⟨oc10, od10, .func (PySem.W.fnOf "is_sequence" "is_sequence" (defArgs s_is_sequence) (defBody s_is_sequence) (defScope s_is_sequence) .none kV10 dc10 pm10 an10 cd10 ct10), sl10⟩)
    (c10 : PySem.W.codeIn K cd10 "is_sequence" = true)
    (k10 : PySem.W.keepIn K (.ref f_is_sequence) = true)
    (a11 : PySem.W.nsIn K mainGlobals "need_told" = some (some (.ref f_need_told)))
    (l11 : K.lookup f_need_told = some ⟨oc11, od11, .func (PySem.W.fnOf "need_told" "need_told" (defArgs s_need_told) (defBody s_need_told) (defScope s_need_told) .none kV11 dc11 pm11 an11 cd11 ct11), sl11⟩)
    (c11 : PySem.W.codeIn K cd11 "need_told" = true)
    (k11 : PySem.W.keepIn K (.ref f_need_told) = true)
    (a12 : PySem.W.nsIn K mainGlobals "bells_of" = some (some (.ref f_bells_of)))
    (l12 : K.lookup f_bells_of = some ⟨oc12, od12, .func (PySem.W.fnOf "bells_of" "bells_of" (defArgs s_bells_of) (defBody s_bells_of) (defScope s_bells_of) .none kV12 dc12 pm12 an12 cd12 ct12), sl12⟩)
    (c12 : PySem.W.codeIn K cd12 "bells_of" = true)
    (k12 : PySem.W.keepIn K (.ref f_bells_of) = true)
    (a13 : PySem.W.nsIn K mainGlobals "lots_among" = some (some (.ref f_lots_among)))
    (l13 : K.lookup f_lots_among = some ⟨oc13, od13, .func (PySem.W.fnOf "lots_among" "lots_among" (defArgs s_lots_among) (defBody s_lots_among) (defScope s_lots_among) .none kV13 dc13 pm13 an13 cd13 ct13), sl13⟩)
    (c13 : PySem.W.codeIn K cd13 "lots_among" = true)
    (k13 : PySem.W.keepIn K (.ref f_lots_among) = true)
    (a14 : PySem.W.nsIn K mainGlobals "ordered_lots" = some (some (.ref f_ordered_lots)))
    (l14 : K.lookup f_ordered_lots = some ⟨oc14, od14, .func (PySem.W.fnOf "ordered_lots" "ordered_lots" (defArgs s_ordered_lots) (defBody s_ordered_lots) (defScope s_ordered_lots) .none kV14 dc14 pm14 an14 cd14 ct14), sl14⟩)
    (c14 : PySem.W.codeIn K cd14 "ordered_lots" = true)
    (k14 : PySem.W.keepIn K (.ref f_ordered_lots) = true)
    (a15 : PySem.W.nsIn K mainGlobals "least_ones" = some (some (.ref f_least_ones)))
    (l15 : K.lookup f_least_ones = some ⟨oc15, od15, .func (PySem.W.fnOf "least_ones" "least_ones" (defArgs s_least_ones) (defBody s_least_ones) (defScope s_least_ones) .none kV15 dc15 pm15 an15 cd15 ct15), sl15⟩)
    (c15 : PySem.W.codeIn K cd15 "least_ones" = true)
    (k15 : PySem.W.keepIn K (.ref f_least_ones) = true)
    (a16 : PySem.W.nsIn K mainGlobals "is_integer" = some (some (.ref f_is_integer)))
    (l16 : K.lookup f_is_integer = some ⟨oc16, od16, .func (PySem.W.fnOf "is_integer" "is_integer" (defArgs s_is_integer) (defBody s_is_integer) (defScope s_is_integer) .none kV16 dc16 pm16 an16 cd16 ct16), sl16⟩)
    (c16 : PySem.W.codeIn K cd16 "is_integer" = true)
    (k16 : PySem.W.keepIn K (.ref f_is_integer) = true)
    (a17 : PySem.W.nsIn K mainGlobals "is_number" = some (some (.ref f_is_number)))
    (l17 : K.lookup f_is_number = some ⟨oc17, od17, .func (PySem.W.fnOf "is_number" "is_number" (defArgs s_is_number) (defBody s_is_number) (defScope s_is_number) .none kV17 dc17 pm17 an17 cd17 ct17), sl17⟩)
    (c17 : PySem.W.codeIn K cd17 "is_number" = true)
    (k17 : PySem.W.keepIn K (.ref f_is_number) = true)
    (a18 : PySem.W.nsIn K mainGlobals "is_name_lot" = some (some (.ref f_is_name_lot)))
    (l18 : K.lookup f_is_name_lot = some ⟨oc18, od18, .func (PySem.W.fnOf "is_name_lot" "is_name_lot" (defArgs s_is_name_lot) (defBody s_is_name_lot) (defScope s_is_name_lot) .none kV18 dc18 pm18 an18 cd18 ct18), sl18⟩)
    (c18 : PySem.W.codeIn K cd18 "is_name_lot" = true)
    (k18 : PySem.W.keepIn K (.ref f_is_name_lot) = true)
    (a19 : PySem.W.nsIn K mainGlobals "need_bells" = some (some (.ref f_need_bells)))
    (l19 : K.lookup f_need_bells = some ⟨oc19, od19, .func (PySem.W.fnOf "need_bells" "need_bells" (defArgs s_need_bells) (defBody s_need_bells) (defScope s_need_bells) .none kV19 dc19 pm19 an19 cd19 ct19), sl19⟩)
    (c19 : PySem.W.codeIn K cd19 "need_bells" = true)
    (k19 : PySem.W.keepIn K (.ref f_need_bells) = true)
    (a20 : PySem.W.nsIn K mainGlobals "need_naming" = some (some (.ref f_need_naming)))
    (l20 : K.lookup f_need_naming = some ⟨oc20, od20, .func (PySem.W.fnOf "need_naming" "need_naming" (defArgs s_need_naming) (defBody s_need_naming) (defScope s_need_naming) .none kV20 dc20 pm20 an20 cd20 ct20), sl20⟩)
    (c20 : PySem.W.codeIn K cd20 "need_naming" = true)
    (k20 : PySem.W.keepIn K (.ref f_need_naming) = true)
    (a21 : PySem.W.nsIn K mainGlobals "tones_in" = some (some (.ref f_tones_in)))
    (l21 : K.lookup f_tones_in = some ⟨oc21, od21, .func (PySem.W.fnOf "tones_in" "tones_in" (defArgs s_tones_in) (defBody s_tones_in) (defScope s_tones_in) .none kV21 dc21 pm21 an21 cd21 ct21), sl21⟩)
    (c21 : PySem.W.codeIn K cd21 "tones_in" = true)
    (k21 : PySem.W.keepIn K (.ref f_tones_in) = true)
    (a22 : PySem.W.nsIn K mainGlobals "heard_tones" = some (some (.ref f_heard_tones)))
    (l22 : K.lookup f_heard_tones = some ⟨oc22, od22, .func (PySem.W.fnOf "heard_tones" "heard_tones" (defArgs s_heard_tones) (defBody s_heard_tones) (defScope s_heard_tones) .none kV22 dc22 pm22 an22 cd22 ct22), sl22⟩)
    (c22 : PySem.W.codeIn K cd22 "heard_tones" = true)
    (k22 : PySem.W.keepIn K (.ref f_heard_tones) = true)
    (a23 : PySem.W.nsIn K mainGlobals "how_often" = some (some (.ref f_how_often)))
    (l23 : K.lookup f_how_often = some ⟨oc23, od23, .func (PySem.W.fnOf "how_often" "how_often" (defArgs s_how_often) (defBody s_how_often) (defScope s_how_often) .none kV23 dc23 pm23 an23 cd23 ct23), sl23⟩)
    (c23 : PySem.W.codeIn K cd23 "how_often" = true)
    (k23 : PySem.W.keepIn K (.ref f_how_often) = true)
    (a24 : PySem.W.nsIn K mainGlobals "tones_needed" = some (some (.ref f_tones_needed)))
    (l24 : K.lookup f_tones_needed = some ⟨oc24, od24, .func (PySem.W.fnOf "tones_needed" "tones_needed" (defArgs s_tones_needed) (defBody s_tones_needed) (defScope s_tones_needed) .none kV24 dc24 pm24 an24 cd24 ct24), sl24⟩)
    (c24 : PySem.W.codeIn K cd24 "tones_needed" = true)
    (k24 : PySem.W.keepIn K (.ref f_tones_needed) = true)
    (a25 : PySem.W.nsIn K mainGlobals "lots_matched" = some (some (.ref f_lots_matched)))
    (l25 : K.lookup f_lots_matched = some ⟨oc25, od25, .func (PySem.W.fnOf "lots_matched" "lots_matched" (defArgs s_lots_matched) (defBody s_lots_matched) (defScope s_lots_matched) .none kV25 dc25 pm25 an25 cd25 ct25), sl25⟩)
    (c25 : PySem.W.codeIn K cd25 "lots_matched" = true)
    (k25 : PySem.W.keepIn K (.ref f_lots_matched) = true)
    (a26 : PySem.W.nsIn K mainGlobals "_law_take" = some (some (.ref f__law_take)))
    (l26 : K.lookup f__law_take = some ⟨oc26, od26, .func (PySem.W.fnOf "_law_take" "_law_take" (defArgs s__law_take) (defBody s__law_take) (defScope s__law_take) .none kV26 dc26 pm26 an26 cd26 ct26), sl26⟩)
    (c26 : PySem.W.codeIn K cd26 "_law_take" = true)
    (k26 : PySem.W.keepIn K (.ref f__law_take) = true)
    (a27 : PySem.W.nsIn K mainGlobals "_law_box" = some (some (.ref f__law_box)))
    (l27 : K.lookup f__law_box = some ⟨oc27, od27, .func (PySem.W.fnOf "_law_box" "_law_box" (defArgs s__law_box) (defBody s__law_box) (defScope s__law_box) .none kV27 dc27 pm27 an27 cd27 ct27), sl27⟩)
    (c27 : PySem.W.codeIn K cd27 "_law_box" = true)
    (k27 : PySem.W.keepIn K (.ref f__law_box) = true)
    (a28 : PySem.W.nsIn K mainGlobals "_law_pick" = some (some (.ref f__law_pick)))
    (l28 : K.lookup f__law_pick = some ⟨oc28, od28, .func (PySem.W.fnOf "_law_pick" "_law_pick" (defArgs s__law_pick) (defBody s__law_pick) (defScope s__law_pick) .none kV28 dc28 pm28 an28 cd28 ct28), sl28⟩)
    (c28 : PySem.W.codeIn K cd28 "_law_pick" = true)
    (k28 : PySem.W.keepIn K (.ref f__law_pick) = true)
    (a29 : PySem.W.nsIn K mainGlobals "_law_names" = some (some (.ref f__law_names)))
    (l29 : K.lookup f__law_names = some ⟨oc29, od29, .func (PySem.W.fnOf "_law_names" "_law_names" (defArgs s__law_names) (defBody s__law_names) (defScope s__law_names) .none kV29 dc29 pm29 an29 cd29 ct29), sl29⟩)
    (c29 : PySem.W.codeIn K cd29 "_law_names" = true)
    (k29 : PySem.W.keepIn K (.ref f__law_names) = true)
    (a30 : PySem.W.nsIn K mainGlobals "_law_tale" = some (some (.ref f__law_tale)))
    (l30 : K.lookup f__law_tale = some ⟨oc30, od30, .func (PySem.W.fnOf "_law_tale" "_law_tale" (defArgs s__law_tale) (defBody s__law_tale) (defScope s__law_tale) .none kV30 dc30 pm30 an30 cd30 ct30), sl30⟩)
    (c30 : PySem.W.codeIn K cd30 "_law_tale" = true)
    (k30 : PySem.W.keepIn K (.ref f__law_tale) = true)
    (a31 : PySem.W.nsIn K mainGlobals "_law_changed" = some (some (.ref f__law_changed)))
    (l31 : K.lookup f__law_changed = some ⟨oc31, od31, .func (PySem.W.fnOf "_law_changed" "_law_changed" (defArgs s__law_changed) (defBody s__law_changed) (defScope s__law_changed) .none kV31 dc31 pm31 an31 cd31 ct31), sl31⟩)
    (c31 : PySem.W.codeIn K cd31 "_law_changed" = true)
    (k31 : PySem.W.keepIn K (.ref f__law_changed) = true)
    (a32 : PySem.W.nsIn K mainGlobals "_law_heard" = some (some (.ref f__law_heard)))
    (l32 : K.lookup f__law_heard = some ⟨oc32, od32, .func (PySem.W.fnOf "_law_heard" "_law_heard" (defArgs s__law_heard) (defBody s__law_heard) (defScope s__law_heard) .none kV32 dc32 pm32 an32 cd32 ct32), sl32⟩)
    (c32 : PySem.W.codeIn K cd32 "_law_heard" = true)
    (k32 : PySem.W.keepIn K (.ref f__law_heard) = true)
    (a33 : PySem.W.nsIn K mainGlobals "_law_matched" = some (some (.ref f__law_matched)))
    (l33 : K.lookup f__law_matched = some ⟨oc33, od33, .func (PySem.W.fnOf "_law_matched" "_law_matched" (defArgs s__law_matched) (defBody s__law_matched) (defScope s__law_matched) .none kV33 dc33 pm33 an33 cd33 ct33), sl33⟩)
    (c33 : PySem.W.codeIn K cd33 "_law_matched" = true)
    (k33 : PySem.W.keepIn K (.ref f__law_matched) = true)
    (a34 : PySem.W.nsIn K mainGlobals "_law_needed" = some (some (.ref f__law_needed)))
    (l34 : K.lookup f__law_needed = some ⟨oc34, od34, .func (PySem.W.fnOf "_law_needed" "_law_needed" (defArgs s__law_needed) (defBody s__law_needed) (defScope s__law_needed) .none kV34 dc34 pm34 an34 cd34 ct34), sl34⟩)
    (c34 : PySem.W.codeIn K cd34 "_law_needed" = true)
    (k34 : PySem.W.keepIn K (.ref f__law_needed) = true)
    (a35 : PySem.W.nsIn K mainGlobals "_law_at" = some (some (.ref f__law_at)))
    (l35 : K.lookup f__law_at = some ⟨oc35, od35, .func (PySem.W.fnOf "_law_at" "_law_at" (defArgs s__law_at) (defBody s__law_at) (defScope s__law_at) .none kV35 dc35 pm35 an35 cd35 ct35), sl35⟩)
    (c35 : PySem.W.codeIn K cd35 "_law_at" = true)
    (k35 : PySem.W.keepIn K (.ref f__law_at) = true)
    (a36 : PySem.W.nsIn K mainGlobals "law" = some (some (.ref f_law)))
    (l36 : K.lookup f_law = some ⟨oc36, od36, .func (PySem.W.fnOf "law" "law" (defArgs s_law) (defBody s_law) (defScope s_law) .none kV36 dc36 pm36 an36 cd36 ct36), sl36⟩)
    (c36 : PySem.W.codeIn K cd36 "law" = true)
    (k36 : PySem.W.keepIn K (.ref f_law) = true)
    (aM_PL : PySem.W.nsIn K mainGlobals "parting_lots" = some (some (.ref g_PL)))
    (lM_PL : K.lookup g_PL = some ⟨ocPL, odPL, .func (PySem.W.fnOf "parting_lots" "parting_lots" (defArgs s_parting_lots) (defBody s_parting_lots) (defScope s_parting_lots) .none (.ref kd_PL) dcPL pmPL anPL (.ref c_PL) ctPL), slPL⟩)
    (cM_PL : PySem.W.codeIn K (.ref c_PL) "parting_lots" = true)
    (kM_PL : PySem.W.keepIn K (.ref g_PL) = true)
    (lC_PL : K.lookup c_PL = some ⟨clPL, ddPL, .fields vsPL, svPL⟩)
    (vC_PL : (vsPL[11]? : Option Value) = some (.ref P_PL))
    (tT_PL : h.get? P_PL = some { cls := .none, data := .fields #[] })
    (nP_PL : K.lookup P_PL = none)
    (hC_PL : PySem.W.codeHdIn K c_PL P_PL = true)
    (aM_SL : PySem.W.nsIn K mainGlobals "_law_sorted_lots" = some (some (.ref g_SL)))
    (lM_SL : K.lookup g_SL = some ⟨ocSL, odSL, .func (PySem.W.fnOf "_law_sorted_lots" "_law_sorted_lots" (defArgs s__law_sorted_lots) (defBody s__law_sorted_lots) (defScope s__law_sorted_lots) .none kVSL dcSL pmSL anSL (.ref c_SL) ctSL), slSL⟩)
    (cM_SL : PySem.W.codeIn K (.ref c_SL) "_law_sorted_lots" = true)
    (kM_SL : PySem.W.keepIn K (.ref g_SL) = true)
    (lC_SL : K.lookup c_SL = some ⟨clSL, ddSL, .fields vsSL, svSL⟩)
    (vC_SL : (vsSL[11]? : Option Value) = some (.ref P_SL))
    (tT_SL : h.get? P_SL = some { cls := .none, data := .fields #[] })
    (nP_SL : K.lookup P_SL = none)
    (hC_SL : PySem.W.codeHdIn K c_SL P_SL = true)
    (aM_RI : PySem.W.nsIn K mainGlobals "_law_refused_right" = some (some (.ref g_RI)))
    (lM_RI : K.lookup g_RI = some ⟨ocRI, odRI, .func (PySem.W.fnOf "_law_refused_right" "_law_refused_right" (defArgs s__law_refused_right) (defBody s__law_refused_right) (defScope s__law_refused_right) .none kVRI dcRI pmRI anRI (.ref c_RI) ctRI), slRI⟩)
    (cM_RI : PySem.W.codeIn K (.ref c_RI) "_law_refused_right" = true)
    (kM_RI : PySem.W.keepIn K (.ref g_RI) = true)
    (lC_RI : K.lookup c_RI = some ⟨clRI, ddRI, .fields vsRI, svRI⟩)
    (vC_RI : (vsRI[11]? : Option Value) = some (.ref P_RI))
    (tT_RI : h.get? P_RI = some { cls := .none, data := .fields #[] })
    (nP_RI : K.lookup P_RI = none)
    (hC_RI : PySem.W.codeHdIn K c_RI P_RI = true)
    (dK_PL : PySem.W.nsIn K kd_PL "surely" = some (some (.bool false)))
    (ne_SL_PL : P_SL ≠ P_PL)
    (ne_RI_PL : P_RI ≠ P_PL)
    (ne_RI_SL : P_RI ≠ P_SL)
    (z_abs : PySem.W.nsIn K mainGlobals "abs" = some none)
    (z_all : PySem.W.nsIn K mainGlobals "all" = some none)
    (z_any : PySem.W.nsIn K mainGlobals "any" = some none)
    (z_bool : PySem.W.nsIn K mainGlobals "bool" = some none)
    (z_dict : PySem.W.nsIn K mainGlobals "dict" = some none)
    (z_enumerate : PySem.W.nsIn K mainGlobals "enumerate" = some none)
    (z_int : PySem.W.nsIn K mainGlobals "int" = some none)
    (z_isinstance : PySem.W.nsIn K mainGlobals "isinstance" = some none)
    (z_len : PySem.W.nsIn K mainGlobals "len" = some none)
    (z_list : PySem.W.nsIn K mainGlobals "list" = some none)
    (z_max : PySem.W.nsIn K mainGlobals "max" = some none)
    (z_min : PySem.W.nsIn K mainGlobals "min" = some none)
    (z_range : PySem.W.nsIn K mainGlobals "range" = some none)
    (z_repr : PySem.W.nsIn K mainGlobals "repr" = some none)
    (z_set : PySem.W.nsIn K mainGlobals "set" = some none)
    (z_sorted : PySem.W.nsIn K mainGlobals "sorted" = some none)
    (z_str : PySem.W.nsIn K mainGlobals "str" = some none)
    (z_tuple : PySem.W.nsIn K mainGlobals "tuple" = some none)
    (z_zip : PySem.W.nsIn K mainGlobals "zip" = some none)
    (gL : PySem.W.nsIn K mainGlobals "LETTERS" = some (some (.int 8 tkL)))
    : Gt.LawT l w K 12 63 "script" mg fa h := by
  have e := hfa.symm.trans (PySem.W.mg_of X G a36)
  cases e
  have F_is_name := fun_mk (st := s_is_name) l0 c0 k0
  have b_is_name := F_is_name.binds (ps := ["value"]) fun _ _ _ _ _ _ us hl => match us, hl with | [_], _ => rfl
  have m_is_name := PySem.W.mg_of X G a0
  have F_thin_lot := fun_mk (st := s_thin_lot) l1 c1 k1
  have b_thin_lot := F_thin_lot.binds (ps := ["lot", "names"]) fun _ _ _ _ _ _ us hl => match us, hl with | [_, _], _ => rfl
  have m_thin_lot := PySem.W.mg_of X G a1
  have F_is_part := fun_mk (st := s_is_part) l2 c2 k2
  have b_is_part := F_is_part.binds (ps := ["lot", "other"]) fun _ _ _ _ _ _ us hl => match us, hl with | [_, _], _ => rfl
  have m_is_part := PySem.W.mg_of X G a2
  have F_is_lot := fun_mk (st := s_is_lot) l3 c3 k3
  have b_is_lot := F_is_lot.binds (ps := ["value"]) fun _ _ _ _ _ _ us hl => match us, hl with | [_], _ => rfl
  have m_is_lot := PySem.W.mg_of X G a3
  have F_is_tale := fun_mk (st := s_is_tale) l4 c4 k4
  have b_is_tale := F_is_tale.binds (ps := ["value"]) fun _ _ _ _ _ _ us hl => match us, hl with | [_], _ => rfl
  have m_is_tale := PySem.W.mg_of X G a4
  have F_need_tales := fun_mk (st := s_need_tales) l5 c5 k5
  have m_need_tales := PySem.W.mg_of X G a5
  have F_begins_with := fun_mk (st := s_begins_with) l6 c6 k6
  have b_begins_with := F_begins_with.binds (ps := ["tale", "other"]) fun _ _ _ _ _ _ us hl => match us, hl with | [_, _], _ => rfl
  have m_begins_with := PySem.W.mg_of X G a6
  have F_as_lot := fun_mk (st := s_as_lot) l7 c7 k7
  have b_as_lot := F_as_lot.binds (ps := ["values"]) fun _ _ _ _ _ _ us hl => match us, hl with | [_], _ => rfl
  have m_as_lot := PySem.W.mg_of X G a7
  have F_thin_tale := fun_mk (st := s_thin_tale) l8 c8 k8
  have b_thin_tale := F_thin_tale.binds (ps := ["tale", "names"]) fun _ _ _ _ _ _ us hl => match us, hl with | [_, _], _ => rfl
  have m_thin_tale := PySem.W.mg_of X G a8
  have F_is_parted := fun_mk (st := s_is_parted) l9 c9 k9
  have b_is_parted := F_is_parted.binds (ps := ["one", "other", "names", "surely"]) fun _ _ _ _ _ _ us hl => match us, hl with | [_, _, _, _], _ => rfl
  have m_is_parted := PySem.W.mg_of X G a9
  have F_is_sequence := fun_mk (st := s_is_sequence) l10 c10 k10
  have b_is_sequence := F_is_sequence.binds (ps := ["value"]) fun _ _ _ _ _ _ us hl => match us, hl with | [_], _ => rfl
  have m_is_sequence := PySem.W.mg_of X G a10
  have F_need_told := fun_mk (st := s_need_told) l11 c11 k11
  have b_need_told := F_need_told.binds (ps := ["tales"]) fun _ _ _ _ _ _ us hl => match us, hl with | [_], _ => rfl
  have m_need_told := PySem.W.mg_of X G a11
  have F_bells_of := fun_mk (st := s_bells_of) l12 c12 k12
  have b_bells_of := F_bells_of.binds (ps := ["tales"]) fun _ _ _ _ _ _ us hl => match us, hl with | [_], _ => rfl
  have m_bells_of := PySem.W.mg_of X G a12
  have F_lots_among := fun_mk (st := s_lots_among) l13 c13 k13
  have b_lots_among := F_lots_among.binds (ps := ["bells"]) fun _ _ _ _ _ _ us hl => match us, hl with | [_], _ => rfl
  have m_lots_among := PySem.W.mg_of X G a13
  have F_ordered_lots := fun_mk (st := s_ordered_lots) l14 c14 k14
  have b_ordered_lots := F_ordered_lots.binds (ps := ["names"]) fun _ _ _ _ _ _ us hl => match us, hl with | [_], _ => rfl
  have m_ordered_lots := PySem.W.mg_of X G a14
  have F_least_ones := fun_mk (st := s_least_ones) l15 c15 k15
  have b_least_ones := F_least_ones.binds (ps := ["lots", "is_wanted"]) fun _ _ _ _ _ _ us hl => match us, hl with | [_, _], _ => rfl
  have m_least_ones := PySem.W.mg_of X G a15
  have F_is_integer := fun_mk (st := s_is_integer) l16 c16 k16
  have b_is_integer := F_is_integer.binds (ps := ["value"]) fun _ _ _ _ _ _ us hl => match us, hl with | [_], _ => rfl
  have m_is_integer := PySem.W.mg_of X G a16
  have F_is_number := fun_mk (st := s_is_number) l17 c17 k17
  have b_is_number := F_is_number.binds (ps := ["value"]) fun _ _ _ _ _ _ us hl => match us, hl with | [_], _ => rfl
  have m_is_number := PySem.W.mg_of X G a17
  have F_is_name_lot := fun_mk (st := s_is_name_lot) l18 c18 k18
  have b_is_name_lot := F_is_name_lot.binds (ps := ["value"]) fun _ _ _ _ _ _ us hl => match us, hl with | [_], _ => rfl
  have m_is_name_lot := PySem.W.mg_of X G a18
  have F_need_bells := fun_mk (st := s_need_bells) l19 c19 k19
  have b_need_bells := F_need_bells.binds (ps := ["bells"]) fun _ _ _ _ _ _ us hl => match us, hl with | [_], _ => rfl
  have m_need_bells := PySem.W.mg_of X G a19
  have F_need_naming := fun_mk (st := s_need_naming) l20 c20 k20
  have b_need_naming := F_need_naming.binds (ps := ["bells", "naming"]) fun _ _ _ _ _ _ us hl => match us, hl with | [_, _], _ => rfl
  have m_need_naming := PySem.W.mg_of X G a20
  have F_tones_in := fun_mk (st := s_tones_in) l21 c21 k21
  have b_tones_in := F_tones_in.binds (ps := ["lots", "bells", "naming"]) fun _ _ _ _ _ _ us hl => match us, hl with | [_, _, _], _ => rfl
  have m_tones_in := PySem.W.mg_of X G a21
  have F_heard_tones := fun_mk (st := s_heard_tones) l22 c22 k22
  have b_heard_tones := F_heard_tones.binds (ps := ["lots", "bells", "naming"]) fun _ _ _ _ _ _ us hl => match us, hl with | [_, _, _], _ => rfl
  have m_heard_tones := PySem.W.mg_of X G a22
  have F_how_often := fun_mk (st := s_how_often) l23 c23 k23
  have b_how_often := F_how_often.binds (ps := ["tale", "names"]) fun _ _ _ _ _ _ us hl => match us, hl with | [_, _], _ => rfl
  have m_how_often := PySem.W.mg_of X G a23
  have F_tones_needed := fun_mk (st := s_tones_needed) l24 c24 k24
  have b_tones_needed := F_tones_needed.binds (ps := ["one", "other"]) fun _ _ _ _ _ _ us hl => match us, hl with | [_, _], _ => rfl
  have m_tones_needed := PySem.W.mg_of X G a24
  have F_lots_matched := fun_mk (st := s_lots_matched) l25 c25 k25
  have b_lots_matched := F_lots_matched.binds (ps := ["one", "other"]) fun _ _ _ _ _ _ us hl => match us, hl with | [_, _], _ => rfl
  have m_lots_matched := PySem.W.mg_of X G a25
  have F__law_take := fun_mk (st := s__law_take) l26 c26 k26
  have b__law_take := F__law_take.binds (ps := ["box", "many"]) fun _ _ _ _ _ _ us hl => match us, hl with | [_, _], _ => rfl
  have m__law_take := PySem.W.mg_of X G a26
  have F__law_box := fun_mk (st := s__law_box) l27 c27 k27
  have b__law_box := F__law_box.binds (ps := ["script", "k"]) fun _ _ _ _ _ _ us hl => match us, hl with | [_, _], _ => rfl
  have m__law_box := PySem.W.mg_of X G a27
  have F__law_pick := fun_mk (st := s__law_pick) l28 c28 k28
  have b__law_pick := F__law_pick.binds (ps := ["box", "some"]) fun _ _ _ _ _ _ us hl => match us, hl with | [_, _], _ => rfl
  have m__law_pick := PySem.W.mg_of X G a28
  have F__law_names := fun_mk (st := s__law_names) l29 c29 k29
  have b__law_names := F__law_names.binds (ps := ["box", "many"]) fun _ _ _ _ _ _ us hl => match us, hl with | [_, _], _ => rfl
  have m__law_names := PySem.W.mg_of X G a29
  have F__law_tale := fun_mk (st := s__law_tale) l30 c30 k30
  have b__law_tale := F__law_tale.binds (ps := ["box", "names", "most"]) fun _ _ _ _ _ _ us hl => match us, hl with | [_, _, _], _ => rfl
  have m__law_tale := PySem.W.mg_of X G a30
  have F__law_changed := fun_mk (st := s__law_changed) l31 c31 k31
  have b__law_changed := F__law_changed.binds (ps := ["box", "tale", "names"]) fun _ _ _ _ _ _ us hl => match us, hl with | [_, _, _], _ => rfl
  have m__law_changed := PySem.W.mg_of X G a31
  have F__law_heard := fun_mk (st := s__law_heard) l32 c32 k32
  have b__law_heard := F__law_heard.binds (ps := ["tale", "names"]) fun _ _ _ _ _ _ us hl => match us, hl with | [_, _], _ => rfl
  have m__law_heard := PySem.W.mg_of X G a32
  have F__law_matched := fun_mk (st := s__law_matched) l33 c33 k33
  have b__law_matched := F__law_matched.binds (ps := ["one", "other"]) fun _ _ _ _ _ _ us hl => match us, hl with | [_, _], _ => rfl
  have m__law_matched := PySem.W.mg_of X G a33
  have F__law_needed := fun_mk (st := s__law_needed) l34 c34 k34
  have b__law_needed := F__law_needed.binds (ps := ["one", "other"]) fun _ _ _ _ _ _ us hl => match us, hl with | [_, _], _ => rfl
  have m__law_needed := PySem.W.mg_of X G a34
  have F__law_at := fun_mk (st := s__law_at) l35 c35 k35
  have b__law_at := F__law_at.binds (ps := ["work"]) fun _ _ _ _ _ _ us hl => match us, hl with | [_], _ => rfl
  have m__law_at := PySem.W.mg_of X G a35
  have F_law := fun_mk (st := s_law) l36 c36 k36
  have m_law := PySem.W.mg_of X G a36
  have n_abs := PySem.W.mg_none_of X G z_abs
  have n_all := PySem.W.mg_none_of X G z_all
  have n_any := PySem.W.mg_none_of X G z_any
  have n_bool := PySem.W.mg_none_of X G z_bool
  have n_dict := PySem.W.mg_none_of X G z_dict
  have n_enumerate := PySem.W.mg_none_of X G z_enumerate
  have n_int := PySem.W.mg_none_of X G z_int
  have n_isinstance := PySem.W.mg_none_of X G z_isinstance
  have n_len := PySem.W.mg_none_of X G z_len
  have n_list := PySem.W.mg_none_of X G z_list
  have n_max := PySem.W.mg_none_of X G z_max
  have n_min := PySem.W.mg_none_of X G z_min
  have n_range := PySem.W.mg_none_of X G z_range
  have n_repr := PySem.W.mg_none_of X G z_repr
  have n_set := PySem.W.mg_none_of X G z_set
  have n_sorted := PySem.W.mg_none_of X G z_sorted
  have n_str := PySem.W.mg_none_of X G z_str
  have n_tuple := PySem.W.mg_none_of X G z_tuple
  have n_zip := PySem.W.mg_none_of X G z_zip
  have g_L := PySem.W.mg_of X G gL
  have T_c : Xb.ErrC K mg "InvalidHeard" C fI_c := { gC := PySem.W.mg_of X G aC_c, cls := ⟨nm_c, q_c, N_c, bs_c, _, sn_c, sub_c, ab_c, col_c, dd_c, m0_c, m1_c, m2_c, m3_c, m5_c, xL_c, rfl⟩, sa := sa_c, ga := ga_c, gg := gg_c, noN := nb_c, iC := aI_c, tC := tI_c, kC := kC_c, exC := eC_c, tyC := tC_c, hdC := hC_c, te := PySem.W.exm_ref eC_c hC_c tC_c sC_c, fn := ⟨_, _, _, _, _, _, _, _, _, _, _, _, _, _, _, lI_c, cI_c⟩ }
  have mM_PL := PySem.W.mg_of X G aM_PL
  have mM_SL := PySem.W.mg_of X G aM_SL
  have mM_RI := PySem.W.mg_of X G aM_RI
  let cs : List (Addr × Addr) := [(c_PL, P_PL), (c_SL, P_SL), (c_RI, P_RI)]
  let T : List (Addr × Str) := [(P_PL, qPL), (P_SL, qSL), (P_RI, qRI)]
  have hTs : ∀ p ∈ cs, h.get? p.2 = some { cls := .none, data := .fields #[] } := by
    intro p hp
    simp only [cs, List.mem_cons, List.not_mem_nil, or_false] at hp
    rcases hp with rfl | rfl | rfl
    · exact tT_PL
    · exact tT_SL
    · exact tT_RI
  have hNs : ∀ p ∈ cs, K.lookup p.2 = none := by
    intro p hp
    simp only [cs, List.mem_cons, List.not_mem_nil, or_false] at hp
    rcases hp with rfl | rfl | rfl
    · exact nP_PL
    · exact nP_SL
    · exact nP_RI
  have hHs : ∀ p ∈ cs, PySem.W.codeHdIn K p.1 p.2 = true := by
    intro p hp
    simp only [cs, List.mem_cons, List.not_mem_nil, or_false] at hp
    rcases hp with rfl | rfl | rfl
    · exact hC_PL
    · exact hC_SL
    · exact hC_RI
  refine ⟨PySem.W.fnOf "law" "law" (defArgs s_law) (defBody s_law) (defScope s_law) .none kV36 dc36 pm36 an36 cd36 ct36, cs, spLaw K T, hTs, hNs, hHs, fun s v => .of_eq rfl, fun H a ns hl hT hS => ⟨a, ns, rfl, hS, hl, ?_, fun _ => rfl⟩, fun base _ _ hTB => ?_⟩
  · intro y hy
    simp only [T, List.mem_cons, List.not_mem_nil, or_false] at hy
    rcases hy with rfl | rfl | rfl
    · exact TabS.nil (hT (c_PL, P_PL) (by simp [cs]))
    · exact TabS.nil (hT (c_SL, P_SL) (by simp [cs]))
    · exact TabS.nil (hT (c_RI, P_RI) (by simp [cs]))
  have TB_PL := hTB (c_PL, P_PL) (by simp [cs])
  have in_PL : (P_PL, qPL) ∈ T := by simp [T]
  have one_PL : ∀ y ∈ T, y.1 = P_PL → y.2 = qPL := by
    intro y hy e
    simp only [T, List.mem_cons, List.not_mem_nil, or_false] at hy
    rcases hy with rfl | rfl | rfl
    · rfl
    · exact absurd e ne_SL_PL
    · exact absurd e ne_RI_PL
  have TB_SL := hTB (c_SL, P_SL) (by simp [cs])
  have in_SL : (P_SL, qSL) ∈ T := by simp [T]
  have one_SL : ∀ y ∈ T, y.1 = P_SL → y.2 = qSL := by
    intro y hy e
    simp only [T, List.mem_cons, List.not_mem_nil, or_false] at hy
    rcases hy with rfl | rfl | rfl
    · exact absurd e.symm ne_SL_PL
    · rfl
    · exact absurd e ne_RI_SL
  have TB_RI := hTB (c_RI, P_RI) (by simp [cs])
  have in_RI : (P_RI, qRI) ∈ T := by simp [T]
  have one_RI : ∀ y ∈ T, y.1 = P_RI → y.2 = qRI := by
    intro y hy e
    simp only [T, List.mem_cons, List.not_mem_nil, or_false] at hy
    rcases hy with rfl | rfl | rfl
    · exact absurd e.symm ne_RI_PL
    · exact absurd e.symm ne_RI_SL
    · rfl
  have G_is_name := ok_is_name (P := l.prog) (w := w) (mg := mg) (base := base) F_is_name g_L n_isinstance n_len n_str
  have C_is_name : Hb.Cl l.prog w K mg base "is_name" ["value"] [] 1 (spIsName K) := ⟨_, _, [], G_is_name, m_is_name, k0, b_is_name, .nil⟩
  have G_thin_lot := ok_thin_lot (P := l.prog) (w := w) (mg := mg) (base := base) F_thin_lot n_tuple
  have C_thin_lot : Hb.Cl l.prog w K mg base "thin_lot" ["lot", "names"] [] 1 (spThin K) := ⟨_, _, [], G_thin_lot, m_thin_lot, k1, b_thin_lot, .nil⟩
  have G_is_part := ok_is_part (P := l.prog) (w := w) (mg := mg) (base := base) F_is_part C_thin_lot n_len
  have C_is_part : Hb.Cl l.prog w K mg base "is_part" ["lot", "other"] [] 2 (spPart K) := ⟨_, _, [], G_is_part, m_is_part, k2, b_is_part, .nil⟩
  have G_is_lot := ok_is_lot (P := l.prog) (w := w) (mg := mg) (base := base) F_is_lot C_is_name n_all n_isinstance n_len n_tuple n_zip
  have C_is_lot : Hb.Cl l.prog w K mg base "is_lot" ["value"] [] 2 (spIsLot K) := ⟨_, _, [], G_is_lot, m_is_lot, k3, b_is_lot, .nil⟩
  have G_is_tale := ok_is_tale (P := l.prog) (w := w) (mg := mg) (base := base) F_is_tale C_is_lot n_all n_isinstance n_tuple
  have C_is_tale : Hb.Cl l.prog w K mg base "is_tale" ["value"] [] 3 (spIsTale K) := ⟨_, _, [], G_is_tale, m_is_tale, k4, b_is_tale, .nil⟩
  have G_begins_with := ok_beg (P := l.prog) (w := w) (mg := mg) (base := base) F_begins_with n_len
  have C_begins_with : Hb.Cl l.prog w K mg base "begins_with" ["tale", "other"] [] 1 (spBeg) := ⟨_, _, [], G_begins_with, m_begins_with, k6, b_begins_with, .nil⟩
  have G_as_lot := ok_as_lot (P := l.prog) (w := w) (mg := mg) (base := base) F_as_lot n_set n_sorted n_tuple
  have C_as_lot : Hb.Cl l.prog w K mg base "as_lot" ["values"] [] 1 (spLot K) := ⟨_, _, [], G_as_lot, m_as_lot, k7, b_as_lot, .nil⟩
  have G_thin_tale := ok_thin_tale (P := l.prog) (w := w) (mg := mg) (base := base) F_thin_tale C_thin_lot n_tuple
  have C_thin_tale : Hb.Cl l.prog w K mg base "thin_tale" ["tale", "names"] [] 2 (spThinT K) := ⟨_, _, [], G_thin_tale, m_thin_tale, k8, b_thin_tale, .nil⟩
  have G_is_parted := ok_parted (P := l.prog) (w := w) (mg := mg) (base := base) F_is_parted C_begins_with C_thin_tale
  have C_is_parted : Hb.Cl l.prog w K mg base "is_parted" ["one", "other", "names", "surely"] [] 3 (spParted K) := ⟨_, _, [], G_is_parted, m_is_parted, k9, b_is_parted, .nil⟩
  have G_is_sequence := ok_seq (P := l.prog) (w := w) (mg := mg) (base := base) F_is_sequence n_isinstance n_list n_tuple
  have C_is_sequence : Hb.Cl l.prog w K mg base "is_sequence" ["value"] [] 1 (spSeq K) := ⟨_, _, [], G_is_sequence, m_is_sequence, k10, b_is_sequence, .nil⟩
  have G_lots_among := ok_among (P := l.prog) (w := w) (mg := mg) (base := base) F_lots_among C_as_lot n_sorted
  have C_lots_among : Hb.Cl l.prog w K mg base "lots_among" ["bells"] [] 2 (spAmong K) := ⟨_, _, [], G_lots_among, m_lots_among, k13, b_lots_among, .nil⟩
  have G_ordered_lots := ok_ord (P := l.prog) (w := w) (mg := mg) (base := base) F_ordered_lots C_lots_among n_len n_sorted
  have C_ordered_lots : Hb.Cl l.prog w K mg base "ordered_lots" ["names"] [] 3 (spOrd K) := ⟨_, _, [], G_ordered_lots, m_ordered_lots, k14, b_ordered_lots, .nil⟩
  have G_is_integer := ok_isint (P := l.prog) (w := w) (mg := mg) (base := base) F_is_integer n_bool n_int n_isinstance
  have C_is_integer : Hb.Cl l.prog w K mg base "is_integer" ["value"] [] 1 (spIsInt K) := ⟨_, _, [], G_is_integer, m_is_integer, k16, b_is_integer, .nil⟩
  have G_is_number := ok_isnum (P := l.prog) (w := w) (mg := mg) (base := base) F_is_number C_is_integer
  have C_is_number : Hb.Cl l.prog w K mg base "is_number" ["value"] [] 2 (spIsNum K) := ⟨_, _, [], G_is_number, m_is_number, k17, b_is_number, .nil⟩
  have G_is_name_lot := ok_nmlot (P := l.prog) (w := w) (mg := mg) (base := base) F_is_name_lot C_is_lot n_isinstance n_len n_tuple
  have C_is_name_lot : Hb.Cl l.prog w K mg base "is_name_lot" ["value"] [] 3 (spNmLot K) := ⟨_, _, [], G_is_name_lot, m_is_name_lot, k18, b_is_name_lot, .nil⟩
  have G_need_bells := ok_bellsok (P := l.prog) (w := w) (mg := mg) (base := base) F_need_bells C_is_name_lot
  have C_need_bells : Hb.Cl l.prog w K mg base "need_bells" ["bells"] [] 4 (spBellsOk K) := ⟨_, _, [], G_need_bells, m_need_bells, k19, b_need_bells, .nil⟩
  have G_need_naming := ok_naming (P := l.prog) (w := w) (mg := mg) (base := base) F_need_naming C_is_number n_all n_isinstance n_len n_tuple
  have C_need_naming : Hb.Cl l.prog w K mg base "need_naming" ["bells", "naming"] [] 3 (spNaming K) := ⟨_, _, [], G_need_naming, m_need_naming, k20, b_need_naming, .nil⟩
  have G_tones_in := ok_tones (P := l.prog) (w := w) (mg := mg) (base := base) F_tones_in C_as_lot n_dict n_tuple n_zip
  have C_tones_in : Hb.Cl l.prog w K mg base "tones_in" ["lots", "bells", "naming"] [] 2 (spTones K) := ⟨_, _, [], G_tones_in, m_tones_in, k21, b_tones_in, .nil⟩
  have G_how_often := ok_often (P := l.prog) (w := w) (mg := mg) (base := base) F_how_often C_thin_tale n_len
  have C_how_often : Hb.Cl l.prog w K mg base "how_often" ["tale", "names"] [] 3 (spOften K) := ⟨_, _, [], G_how_often, m_how_often, k23, b_how_often, .nil⟩
  have G__law_take := ok_take (P := l.prog) (w := w) (mg := mg) (base := base) F__law_take n_int
  have C__law_take : Hb.Cl l.prog w K mg base "_law_take" ["box", "many"] [] 1 (spTake) := ⟨_, _, [], G__law_take, m__law_take, k26, b__law_take, .nil⟩
  have G__law_box := ok_box (P := l.prog) (w := w) (mg := mg) (base := base) F__law_box n_abs n_int n_len
  have C__law_box : Hb.Cl l.prog w K mg base "_law_box" ["script", "k"] [] 1 (spBox K) := ⟨_, _, [], G__law_box, m__law_box, k27, b__law_box, .nil⟩
  have G__law_pick := ok_pick (P := l.prog) (w := w) (mg := mg) (base := base) F__law_pick C__law_take n_len
  have C__law_pick : Hb.Cl l.prog w K mg base "_law_pick" ["box", "some"] [] 2 (spPick K) := ⟨_, _, [], G__law_pick, m__law_pick, k28, b__law_pick, .nil⟩
  have G__law_names := ok_names (P := l.prog) (w := w) (mg := mg) (base := base) F__law_names C__law_pick C__law_take n_int n_range n_sorted
  have C__law_names : Hb.Cl l.prog w K mg base "_law_names" ["box", "many"] [] 3 (spNames) := ⟨_, _, [], G__law_names, m__law_names, k29, b__law_names, .nil⟩
  have G__law_tale := ok_tale (P := l.prog) (w := w) (mg := mg) (base := base) F__law_tale C__law_pick C__law_take n_range n_tuple
  have C__law_tale : Hb.Cl l.prog w K mg base "_law_tale" ["box", "names", "most"] [] 3 (spTale) := ⟨_, _, [], G__law_tale, m__law_tale, k30, b__law_tale, .nil⟩
  have G__law_changed := ok_changed (P := l.prog) (w := w) (mg := mg) (base := base) F__law_changed C__law_pick C__law_take n_len n_list n_max n_range n_set n_sorted n_tuple
  have C__law_changed : Hb.Cl l.prog w K mg base "_law_changed" ["box", "tale", "names"] [] 3 (spChanged K) := ⟨_, _, [], G__law_changed, m__law_changed, k31, b__law_changed, .nil⟩
  have G__law_heard := ok_heard (P := l.prog) (w := w) (mg := mg) (base := base) F__law_heard n_tuple
  have C__law_heard : Hb.Cl l.prog w K mg base "_law_heard" ["tale", "names"] [] 1 (spHeard K) := ⟨_, _, [], G__law_heard, m__law_heard, k32, b__law_heard, .nil⟩
  have G__law_matched := ok_matched (P := l.prog) (w := w) (mg := mg) (base := base) F__law_matched n_len n_range n_tuple
  have C__law_matched : Hb.Cl l.prog w K mg base "_law_matched" ["one", "other"] [] 1 (spMatched K) := ⟨_, _, [], G__law_matched, m__law_matched, k33, b__law_matched, .nil⟩
  have G_need := ok_need (P := l.prog) (w := w) (mg := mg) (base := base) F_need_tales T_c C_is_tale n_enumerate
  have G_need_told := ok_told (P := l.prog) (w := w) (mg := mg) (base := base) F_need_told G_need m_need_tales k5 T_c C_is_sequence
  have C_need_told : Cx_ l.prog w K mg base "need_told" ["tales"] 5 (spNeedT K C) := ⟨_, _, G_need_told, m_need_told, k11, b_need_told⟩
  have G_bells_of := ok_bells (P := l.prog) (w := w) (mg := mg) (base := base) F_bells_of C_as_lot C_need_told
  have C_bells_of : Cx_ l.prog w K mg base "bells_of" ["tales"] 6 (spBells K C) := ⟨_, _, G_bells_of, m_bells_of, k12, b_bells_of⟩
  have G_heard_tones := ok_heardt (C := C) (P := l.prog) (w := w) (mg := mg) (base := base) F_heard_tones G_need m_need_tales k5 C_need_bells C_need_naming C_tones_in
  have C_heard_tones : Cx_ l.prog w K mg base "heard_tones" ["lots", "bells", "naming"] 5 (spHeardT K) := ⟨_, _, G_heard_tones, m_heard_tones, k22, b_heard_tones⟩
  have G_lots_matched := ok_mat (C := C) (P := l.prog) (w := w) (mg := mg) (base := base) F_lots_matched G_need m_need_tales k5 n_enumerate n_len n_tuple
  have C_lots_matched : Cx_ l.prog w K mg base "lots_matched" ["one", "other"] 5 (spMat K C) := ⟨_, _, G_lots_matched, m_lots_matched, k25, b_lots_matched⟩
  have HO_least : Cq.Ho l.prog w K mg base CX0 "least_ones" ["lots", "is_wanted"] 5 (spLeastO l.prog w K mg) := ⟨_, _, fun b le => ok_leastO F_least_ones (Cl.up C_is_part le) n_any n_tuple, m_least_ones, k15, b_least_ones⟩
  have G_PL := ok_PL (P := l.prog) (w := w) (mg := mg) (base := base) (C := C) lM_PL cM_PL TB_PL in_PL one_PL G_need m_need_tales k5 C_bells_of C_ordered_lots C_is_parted HO_least
  have D_PL : FunD K "parting_lots" "parting_lots" (defArgs s_parting_lots) (defBody s_parting_lots) (defScope s_parting_lots) [] [("surely", .bl false)] g_PL _ := ⟨⟨_, _, _, _, _, _, _, _, _, _, rfl, lM_PL, cM_PL, .inl ⟨rfl, rfl⟩, .inr ⟨kd_PL, rfl, fun q hq => by rw [List.mem_singleton.mp hq]; exact ⟨_, dK_PL, rfl⟩⟩⟩, kM_PL⟩
  obtain ⟨ds_PL, rd_PL, bd_PL⟩ := D_PL.binds0 (ps := ["one", "other", "surely"]) 2 (by simp) rfl (fun Dk doc pm an cdv ct us ks h1 h2 => by
    match us, h1, ks, h2 with
    | [_, _], _, [_], _ => exact ⟨_, _, _, _, _, _, rfl, rfl, rfl⟩)
  have G_tones_needed := ok_needed (C := C) (T := T) (P := l.prog) (w := w) (mg := mg) (base := base) F_tones_needed G_need m_need_tales k5 C_bells_of C_ordered_lots C_how_often G_PL mM_PL kM_PL bd_PL rd_PL
  have C_tones_needed : Cx_ l.prog w K mg base "tones_needed" ["one", "other"] 8 (spNeeded K C T) := ⟨_, _, G_tones_needed, m_tones_needed, k24, b_tones_needed⟩
  have V_N : ∀ H, Cq.CallV l.prog w K mg base 8 (spRefd K C T) H f_tones_needed := fun H => (callV_df G_tones_needed l24 b_tones_needed .nil (by decide)).imp fun vs H Q E z => by rw [List.append_nil]; exact refd_N z
  have V_M : ∀ H, Cq.CallV l.prog w K mg base 8 (spRefd K C T) H f_lots_matched := fun H => (callV_df G_lots_matched l25 b_lots_matched .nil (by decide)).imp fun vs H Q E z => by rw [List.append_nil]; exact refd_M z
  have G_SL := ok_SL (P := l.prog) (w := w) (mg := mg) (base := base) lM_SL cM_SL TB_SL in_SL one_SL n_list n_set n_sorted n_len
  have F_SL := fun_mk (st := s__law_sorted_lots) lM_SL cM_SL kM_SL
  have b_SL := F_SL.binds (ps := ["tales"]) fun _ _ _ _ _ _ us hl => match us, hl with | [_], _ => rfl
  have C__law_sorted_lots : Hb.Cl l.prog w K mg base "_law_sorted_lots" ["tales"] [] 4 (spSorted K T) := ⟨_, _, [], G_SL, mM_SL, kM_SL, b_SL, .nil⟩
  have G__law_needed := ok_lneed (T := T) (P := l.prog) (w := w) (mg := mg) (base := base) F__law_needed C__law_sorted_lots C__law_heard n_len
  have C__law_needed : Hb.Cl l.prog w K mg base "_law_needed" ["one", "other"] [] 5 (spLNeed K T) := ⟨_, _, [], G__law_needed, m__law_needed, k34, b__law_needed, .nil⟩
  have G_RI := ok_refus (P := l.prog) (w := w) (mg := mg) (base := base) lM_RI cM_RI TB_RI in_RI one_RI F__law_at b__law_at m__law_at T_c m_tones_needed m_lots_matched V_N V_M C__law_pick n_list n_repr
  have F_RI := fun_mk (st := s__law_refused_right) lM_RI cM_RI kM_RI
  have b_RI := F_RI.binds (ps := ["box", "one", "other"]) fun _ _ _ _ _ _ us hl => match us, hl with | [_, _, _], _ => rfl
  have C__law_refused_right : Hb.Cl l.prog w K mg base "_law_refused_right" ["box", "one", "other"] [] 11 (spRefus T) := ⟨_, _, [], G_RI, mM_RI, kM_RI, b_RI, .nil⟩
  have BK_tones_needed := Kw.kb_rev (ps := ["one", "other"]) (ks := ["other", "one"]) F_tones_needed fun kV doc pm an cdv ct ws h => match ws, h with | [_, _], _ => rfl
  have K_tones_needed : CkX l.prog w K mg base "tones_needed" ["one", "other"] ["other", "one"] (fun _ zs => zs.reverse) 8 (spNeeded K C T) := ⟨_, _, _, G_tones_needed, m_tones_needed, k24, BK_tones_needed⟩
  have BK_lots_matched := Kw.kb_rev (ps := ["one", "other"]) (ks := ["other", "one"]) F_lots_matched fun kV doc pm an cdv ct ws h => match ws, h with | [_, _], _ => rfl
  have K_lots_matched : CkX l.prog w K mg base "lots_matched" ["one", "other"] ["other", "one"] (fun _ zs => zs.reverse) 5 (spMat K C) := ⟨_, _, _, G_lots_matched, m_lots_matched, k25, BK_lots_matched⟩
  exact ok_law (P := l.prog) (w := w) (mg := mg) (base := base) F_law C__law_box C__law_changed C__law_matched C__law_names C__law_needed C__law_refused_right C__law_take C__law_tale C_heard_tones C_lots_matched C_tones_needed K_lots_matched K_tones_needed n_len n_max n_min n_range n_repr n_sorted n_tuple
end K6
open PySem PySem.W PyProof.Rows
set_option maxRecDepth 100000 in
set_option maxHeartbeats 0 in
theorem PySem.Challenge.cw_curvebells_k93_one_tone_or_two_holds : PySem.Challenge.rw_curvebells_k93_one_tone_or_two.Holds := by
  w_on; o_law; k_head; (case hw => w_witness2)
  k_fill
  refine Gt.walk_tabs (l := PySem.Challenge.rw_curvebells_k93_one_tone_or_two) (n := 63) (k := 12) (x := "script") rfl (by decide) rfl ⟨rfl, by decide, by decide⟩ (fun w h Y => PySem.W.km_in_of Y) ?F
  case F =>
    intro w mg fa h Y KX G hmg
    refine' K6.all_mk KX G hmg ?aB ?aC_c ?xL_c ?sa_c ?ga_c ?gg_c ?nb_c ?aI_c ?tI_c ?lI_c ?cI_c ?kC_c ?eC_c ?tC_c ?hC_c ?sC_c ?a0 ?l0 ?c0 ?k0 ?a1 ?l1 ?c1 ?k1 ?a2 ?l2 ?c2 ?k2 ?a3 ?l3 ?c3 ?k3 ?a4 ?l4 ?c4 ?k4 ?a5 ?l5 ?c5 ?k5 ?a6 ?l6 ?c6 ?k6 ?a7 ?l7 ?c7 ?k7 ?a8 ?l8 ?c8 ?k8 ?a9 ?l9 ?c9 ?k9 ?a10 ?l10 ?c10 ?k10 ?a11 ?l11 ?c11 ?k11 ?a12 ?l12 ?c12 ?k12 ?a13 ?l13 ?c13 ?k13 ?a14 ?l14 ?c14 ?k14 ?a15 ?l15 ?c15 ?k15 ?a16 ?l16 ?c16 ?k16 ?a17 ?l17 ?c17 ?k17 ?a18 ?l18 ?c18 ?k18 ?a19 ?l19 ?c19 ?k19 ?a20 ?l20 ?c20 ?k20 ?a21 ?l21 ?c21 ?k21 ?a22 ?l22 ?c22 ?k22 ?a23 ?l23 ?c23 ?k23 ?a24 ?l24 ?c24 ?k24 ?a25 ?l25 ?c25 ?k25 ?a26 ?l26 ?c26 ?k26 ?a27 ?l27 ?c27 ?k27 ?a28 ?l28 ?c28 ?k28 ?a29 ?l29 ?c29 ?k29 ?a30 ?l30 ?c30 ?k30 ?a31 ?l31 ?c31 ?k31 ?a32 ?l32 ?c32 ?k32 ?a33 ?l33 ?c33 ?k33 ?a34 ?l34 ?c34 ?k34 ?a35 ?l35 ?c35 ?k35 ?a36 ?l36 ?c36 ?k36 ?aM_PL ?lM_PL ?cM_PL ?kM_PL ?lC_PL ?vC_PL ?tT_PL ?nP_PL ?hC_PL ?aM_SL ?lM_SL ?cM_SL ?kM_SL ?lC_SL ?vC_SL ?tT_SL ?nP_SL ?hC_SL ?aM_RI ?lM_RI ?cM_RI ?kM_RI ?lC_RI ?vC_RI ?tT_RI ?nP_RI ?hC_RI ?dK_PL ?ne_SL_PL ?ne_RI_PL ?ne_RI_SL ?z_abs ?z_all ?z_any ?z_bool ?z_dict ?z_enumerate ?z_int ?z_isinstance ?z_len ?z_list ?z_max ?z_min ?z_range ?z_repr ?z_set ?z_sorted ?z_str ?z_tuple ?z_zip ?gL
    (case aB => k_is)
    (case aC_c => k_is)
    (case xL_c => k_is)
    (case sa_c => k_is)
    (case ga_c => k_is)
    (case gg_c => k_is)
    (case nb_c => k_is)
    (case aI_c => k_is)
    (case tI_c => k_is)
    (case lI_c => k_is)
    (case cI_c => k_is)
    (case kC_c => k_is)
    (case eC_c => k_is)
    (case tC_c => k_is)
    (case hC_c => k_is)
    (case sC_c => first | rfl | k_is)
    (case a0 => k_is)
    (case l0 => k_is)
    (case c0 => k_is)
    (case k0 => k_is)
    (case a1 => k_is)
    (case l1 => k_is)
    (case c1 => k_is)
    (case k1 => k_is)
    (case a2 => k_is)
    (case l2 => k_is)
    (case c2 => k_is)
    (case k2 => k_is)
    (case a3 => k_is)
    (case l3 => k_is)
    (case c3 => k_is)
    (case k3 => k_is)
    (case a4 => k_is)
    (case l4 => k_is)
    (case c4 => k_is)
    (case k4 => k_is)
    (case a5 => k_is)
    (case l5 => k_is)
    (case c5 => k_is)
    (case k5 => k_is)
    (case a6 => k_is)
    (case l6 => k_is)
    (case c6 => k_is)
    (case k6 => k_is)
    (case a7 => k_is)
    (case l7 => k_is)
    (case c7 => k_is)
    (case k7 => k_is)
    (case a8 => k_is)
    (case l8 => k_is)
    (case c8 => k_is)
    (case k8 => k_is)
    (case a9 => k_is)
    (case l9 => k_is)
    (case c9 => k_is)
    (case k9 => k_is)
    (case a10 => k_is)
    (case l10 => k_is)
    (case c10 => k_is)
    (case k10 => k_is)
    (case a11 => k_is)
    (case l11 => k_is)
    (case c11 => k_is)
    (case k11 => k_is)
    (case a12 => k_is)
    (case l12 => k_is)
    (case c12 => k_is)
    (case k12 => k_is)
    (case a13 => k_is)
    (case l13 => k_is)
    (case c13 => k_is)
    (case k13 => k_is)
    (case a14 => k_is)
    (case l14 => k_is)
    (case c14 => k_is)
    (case k14 => k_is)
    (case a15 => k_is)
    (case l15 => k_is)
    (case c15 => k_is)
    (case k15 => k_is)
    (case a16 => k_is)
    (case l16 => k_is)
    (case c16 => k_is)
    (case k16 => k_is)
    (case a17 => k_is)
    (case l17 => k_is)
    (case c17 => k_is)
    (case k17 => k_is)
    (case a18 => k_is)
    (case l18 => k_is)
    (case c18 => k_is)
    (case k18 => k_is)
    (case a19 => k_is)
    (case l19 => k_is)
    (case c19 => k_is)
    (case k19 => k_is)
    (case a20 => k_is)
    (case l20 => k_is)
    (case c20 => k_is)
    (case k20 => k_is)
    (case a21 => k_is)
    (case l21 => k_is)
    (case c21 => k_is)
    (case k21 => k_is)
    (case a22 => k_is)
    (case l22 => k_is)
    (case c22 => k_is)
    (case k22 => k_is)
    (case a23 => k_is)
    (case l23 => k_is)
    (case c23 => k_is)
    (case k23 => k_is)
    (case a24 => k_is)
    (case l24 => k_is)
    (case c24 => k_is)
    (case k24 => k_is)
    (case a25 => k_is)
    (case l25 => k_is)
    (case c25 => k_is)
    (case k25 => k_is)
    (case a26 => k_is)
    (case l26 => k_is)
    (case c26 => k_is)
    (case k26 => k_is)
    (case a27 => k_is)
    (case l27 => k_is)
    (case c27 => k_is)
    (case k27 => k_is)
    (case a28 => k_is)
    (case l28 => k_is)
    (case c28 => k_is)
    (case k28 => k_is)
    (case a29 => k_is)
    (case l29 => k_is)
    (case c29 => k_is)
    (case k29 => k_is)
    (case a30 => k_is)
    (case l30 => k_is)
    (case c30 => k_is)
    (case k30 => k_is)
    (case a31 => k_is)
    (case l31 => k_is)
    (case c31 => k_is)
    (case k31 => k_is)
    (case a32 => k_is)
    (case l32 => k_is)
    (case c32 => k_is)
    (case k32 => k_is)
    (case a33 => k_is)
    (case l33 => k_is)
    (case c33 => k_is)
    (case k33 => k_is)
    (case a34 => k_is)
    (case l34 => k_is)
    (case c34 => k_is)
    (case k34 => k_is)
    (case a35 => k_is)
    (case l35 => k_is)
    (case c35 => k_is)
    (case k35 => k_is)
    (case a36 => k_is)
    (case l36 => k_is)
    (case c36 => k_is)
    (case k36 => k_is)
    (case aM_PL => k_is)
    (case lM_PL => k_is)
    (case cM_PL => k_is)
    (case kM_PL => k_is)
    (case lC_PL => k_is)
    (case vC_PL => rfl)
    (case tT_PL => exact PySem.W.km_tabs_of Y _ (by first | k_mem | simp))
    (case nP_PL => first | rfl | kernel_rfl)
    (case hC_PL => first | rfl | kernel_rfl)
    (case aM_SL => k_is)
    (case lM_SL => k_is)
    (case cM_SL => k_is)
    (case kM_SL => k_is)
    (case lC_SL => k_is)
    (case vC_SL => rfl)
    (case tT_SL => exact PySem.W.km_tabs_of Y _ (by first | k_mem | simp))
    (case nP_SL => first | rfl | kernel_rfl)
    (case hC_SL => first | rfl | kernel_rfl)
    (case aM_RI => k_is)
    (case lM_RI => k_is)
    (case cM_RI => k_is)
    (case kM_RI => k_is)
    (case lC_RI => k_is)
    (case vC_RI => rfl)
    (case tT_RI => exact PySem.W.km_tabs_of Y _ (by first | k_mem | simp))
    (case nP_RI => first | rfl | kernel_rfl)
    (case hC_RI => first | rfl | kernel_rfl)
    (case dK_PL => k_is)
    (case ne_SL_PL => first | decide | (intro z; cases z))
    (case ne_RI_PL => first | decide | (intro z; cases z))
    (case ne_RI_SL => first | decide | (intro z; cases z))
    (case z_abs => k_is)
    (case z_all => k_is)
    (case z_any => k_is)
    (case z_bool => k_is)
    (case z_dict => k_is)
    (case z_enumerate => k_is)
    (case z_int => k_is)
    (case z_isinstance => k_is)
    (case z_len => k_is)
    (case z_list => k_is)
    (case z_max => k_is)
    (case z_min => k_is)
    (case z_range => k_is)
    (case z_repr => k_is)
    (case z_set => k_is)
    (case z_sorted => k_is)
    (case z_str => k_is)
    (case z_tuple => k_is)
    (case z_zip => k_is)
    (case gL => k_is)
