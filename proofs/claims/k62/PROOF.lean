import PyProof.Rows.All
import Wide.All
import OpenK.AllK
import Wide.FinOn
import HandS.Codes
import HandS.Deep
import HandS.Defaults
import HandS.Dict
import HandS.DictComp
import HandS.Evl
import HandS.ExcField
import HandS.ExcIs
import HandS.ForExc
import HandS.ForMost
import HandS.Gcd
import HandS.IsInst
import HandS.Iter
import HandS.List
import HandS.MakeKwOnly
import HandS.More
import HandS.OwnEq
import HandS.Set
import HandS.SetFor
import HandS.SetTxt0
import HandS.SortKw
import HandS.Star
import HandS.StrMore
import HandS.Strs
import HandS.TupAny
import HandS.TupSets
import HandS.Walk
import HandS.Wide
import HandS.Zip
import KE.DatumOrd
import KE.GoesEnum
import KE.GoesMore
import KE.KDictDisplayH
import KE.KDictZip
import KE.KExcInit
import KE.LtSeq
import KE.SortData
import PyProof.CallFns
import PyProof.InstNe
import PyProof.ListNew
import PyProof.Rows.SortShellAny
import PySem.Challenge.RW_curvebells_k62_circles_of_joins
set_option Elab.async false
set_option linter.all false
set_option maxRecDepth 100000
set_option maxHeartbeats 16000000
/-! sets of texts, made of a list or tuple; sorted of them -/
namespace St
open PySem PySem.Spec PyProof.Rows L2 PySem.Froz
section
variable {P : Program} {w : World} {A : Around} {E : Value → Shared → Prop} {s : Shared}
/-- the order of a set's walk is known to be some order -/
def Led (w : World) (t : SetTable) : Prop := w.params.followText "set-order" = true ∨ t.led = true
/-- the set of the texts l stands at a -/
def TS (P : Program) (w : World) (h : Heap) (a : Addr) (l : List Str) : Prop := ∃ D, h.get? a = some (sObj "set" D) ∧ TxOk P w D l ∧ Ris D.2.2.place.toList ∧ Led w D.2.2 ∧ l.Nodup
theorem TS.at {h h' : Heap} {a : Addr} {l : List Str} (R : TS P w h a l) (k : ∀ o, h.get? a = some o → h'.get? a = some o) : TS P w h' a l := let ⟨D, e, r⟩ := R; ⟨D, k _ e, r⟩
theorem tail_ris {es : Array (Int × Value)} {t : SetTable} {ep : Nat} {wd : Bool} (r : Ris t.place.toList) : Ris (tailTx ep es t wd).2.2.place.toList := by
  unfold tailTx
  by_cases c : (!wd && t.tooFull) = true
  · rw [if_pos c]; exact relayAll_ris _ _ _
  · rw [if_neg c]; exact r
theorem tail_led {es : Array (Int × Value)} {t : SetTable} {ep : Nat} {wd : Bool} (r : t.led = true) : (tailTx ep es t wd).2.2.led = true := by
  unfold tailTx
  by_cases c : (!wd && t.tooFull) = true
  · rw [if_pos c]; exact (relayAll_led _ _ _).trans r
  · rw [if_neg c]; exact r
theorem addTx_ris {D : SD} {n : Int} {v : Value} (r : Ris D.2.2.place.toList) : Ris (addTx n v D).2.2.place.toList := by
  have r1 := layNew_ris D.2.2 D.1 n v r
  unfold addTx
  refine tail_ris ?_
  by_cases c : (layNew D.2.2 D.1 n v).2.1.plain = true
  · rw [if_pos c]; exact r1
  · rw [if_neg c]; exact r1
theorem addTx_led {D : SD} {n : Int} {v : Value} (r : Led w D.2.2) : Led w (addTx n v D).2.2 := by
  rcases r with r | r
  · exact .inl r
  · have l1 : (layNew D.2.2 D.1 n v).2.1.led = true := (layNew_led _ _ _ _).trans r
    refine .inr ?_
    unfold addTx
    refine tail_led ?_
    by_cases c : (layNew D.2.2 D.1 n v).2.1.plain = true
    · rw [if_pos c]; exact l1
    · rw [if_neg c]; exact l1
/-- add of a text that is in already -/
theorem had_x {a : Addr} {D : SD} {l : List Str} {k : Str} {u : Tok} {Q : Bool → Shared → Prop} (ho : s.heap.get? a = some (sObj "set" D)) (F : TxOk P w D l) (hk : k ∈ l) (hb : l.length < scanBound)
    (q : Q false s) : wpAny (model P w) A (setAddHashed a (.str k u) (hashStr w k)) Q E s := by
  obtain ⟨es, ep, t⟩ := D
  have small : es.size < scanBound := by rw [show es.size = l.length from F.sz]; exact hb
  obtain ⟨e, he, ie⟩ := (F.mem k).mp hk
  unfold setAddHashed setAddHashedIn
  refine wpAny_holding (wpAny_bind (wpAny_setState_of ho (rfl : (sObj "set" (es, ep, t)).data = .set es ep t) F.fit ?_)); dsimp only
  rw [byScan_of rfl small F.el, if_pos rfl]; unfold setAddByScan
  refine wpAny_bind (wpAny_bind (wpAny_rule (wpAny_bind (wpAny_setScan_of (knd := strKind P w) (is_str k u) ho rfl F.fit F.el ?_))))
  cases hr : es.toList.findIdx? (fun e => (strKind P w).is k e.2) with
  | some j => exact wpAny_pure (wpAny_pure q)
  | none => exact absurd ie (by rw [List.findIdx?_eq_none_iff.mp hr e he]; decide)
theorem ts_add {a : Addr} {l : List Str} {k : Str} {u : Tok} {Q : Bool → Shared → Prop} (R : TS P w s.heap a l) (hb : l.length + 1 < scanBound)
    (q : ∀ h' b, Heap.SameBut a s.heap h' → TS P w h' a (if k ∈ l then l else k :: l) → Q b { s with heap := h' }) : wpAny (model P w) A (setAddHashed a (.str k u) (hashStr w k)) Q E s := by
  obtain ⟨D, e, F, r, ld, nd⟩ := R
  by_cases hk : k ∈ l
  · exact had_x e F hk (by omega) (q s.heap false (Heap.SameBut.refl a s.heap) ⟨D, e, by rw [if_pos hk]; exact F, r, ld, by rw [if_pos hk]; exact nd⟩)
  · refine add_x e F hk hb (q _ true (Heap.SameBut.update s.heap a _) ⟨_, get_upd _ e rfl, ?_, addTx_ris r, addTx_led ld, ?_⟩)
    · rw [if_neg hk]; exact add_ok u F
    · rw [if_neg hk]; exact List.nodup_cons.mpr ⟨hk, nd⟩
/-- S.update(it), texts -/
theorem upd_texts {I : Addr} {fp wr : List Addr} {G : Array GenState → Array GenState → Prop} {n : Nat} {Pv : Nat → Value → Prop} {St : Nat → Shared → Prop} {R : Result → Shared → Prop}
    (W : WalksS P w A.in1 I fp wr G n Pv St) {S : Addr} (hS : S ∉ fp) {xs : List Str} (hn : n = xs.length) (hb : xs.length + 1 < scanBound) (hv : ∀ i v, Pv i v → ∃ x t, xs[i]? = some x ∧ v = .str x t) :
    ∀ (k i : Nat) (s : Shared) (l : List Str), n - i = k → i ≤ n → St i s → TS P w s.heap S l → l.length ≤ i → (∀ x, x ∈ l ↔ x ∈ xs.take i) →
      (∀ s' m, Moved (S :: wr) G s s' → TS P w s'.heap S m → m.length ≤ n → (∀ x, x ∈ m ↔ x ∈ xs) → R (.ok (.ret .none)) s') →
      codeAny (model P w) A (.builtin "set.update.loop" ⟨[.ref S, .ref I], []⟩) R s := by
  have sw : S ∉ wr := fun z => hS (W.sub S z)
  have wide : ∀ {s s' : Shared}, Moved wr G s s' → Moved (S :: wr) G s s' := fun m => m.mono fun b z => List.mem_cons_of_mem S z
  intro k
  induction k with
  | zero =>
    intro i s l e1 e2 st hT hl hm q
    obtain rfl : i = n := by omega
    refine codeAny_builtin F.entry_set_update_loop ?_
    rw [Around.under_plainId F.plain_set_update_loop _]
    refine wpAny_bind (m := pyNext (.ref I)) (W.done s _ _ st fun s' mv => ?_)
    refine wpAny_pure (q s' l (wide mv) (hT.at fun o e => mv.heap S o sw e) hl fun x => ?_)
    rw [hm x, List.take_of_length_le (by omega)]
  | succ k ih =>
    intro i s l e1 e2 st hT hl hm q
    have hi : i < n := by omega
    refine codeAny_builtin F.entry_set_update_loop ?_
    rw [Around.under_plainId F.plain_set_update_loop _]
    refine wpAny_bind (m := pyNext (.ref I)) (W.item i s _ _ hi st fun v s1 pv st1 mv => ?_)
    obtain ⟨x, t, ex, rfl⟩ := hv i v pv
    refine wpAny_bind (m := holding [Value.str x t] (setAdd S (.str x t))) (wpAny_holding ?_)
    unfold setAdd
    refine wpAny_holding (wpAny_bind ((strKind P w).pyHash (is_str (P := P) (w := w) x t) ?_))
    refine ts_add (s := { s1 with toks := s1.toks + 1 }) (hT.at fun o e => mv.heap S o sw e) (by omega) fun h' _ sb hT' => ?_
    have back : ∀ b o, b ≠ S → s1.heap.get? b = some o → h'.get? b = some o := fun b o ne e => (sb.2 b ne).trans e
    refine wpAny_pure ⟨plainId_quiet F.plain_set_update_loop _, ih (i + 1) _ _ (by omega) hi (W.frame _ s1 _ _ st1 (Nat.le_succ _) fun b z o e => back b o (fun y => hS (y ▸ z)) e) hT' ?_ (fun y => ?_) fun s2 m mv2 hT2 hl2 hm2 => ?_⟩
    · split
      · omega
      · rw [List.length_cons]; omega
    · rw [List.take_add_one, ex, List.mem_append, ← hm y]
      show _ ↔ _ ∨ y ∈ [x]
      rw [List.mem_singleton]
      split
      · exact ⟨.inl, fun z => z.elim id fun z => z ▸ (by assumption)⟩
      · rw [List.mem_cons]; exact Or.comm
    · exact q s2 m (Moved.trans W.gtrans ((wide mv).then_heap (Nat.le_succ _) fun b o z e => back b o (fun y => z (y ▸ List.mem_cons_self)) e) mv2) hT2 hl2 hm2
end
end St

namespace St
open PySem PySem.Spec PyProof.Rows L2 PySem.Froz
/-- a new set -/
abbrev S0 (w : World) : Obj := { cls := .type "set", dict := none, data := .set #[] 0 (.fresh 0 0 (!w.params.followText "set-order")) }
section
variable {P : Program} {w : World} {A : Around} {E : Value → Shared → Prop} {s : Shared}
set_option maxHeartbeats 8000000 in
/-- set(x), x a list or a tuple at l: its loop told by `loop` -/
theorem set_call {l : Addr} {T : String} {ol itO : Obj} {Res : Heap → Prop} {Q : Value → Shared → Prop} (hh : A.handled = none) (hol : s.heap.get? l = some ol) (hcl : ol.cls = .type T)
    (n1 : isSubtype (.type T) (.type "set") = pure false) (n2 : isSubtype (.type T) (.type "frozenset") = pure false) (n3 : (Value.type T == Value.type "dict") = false)
    (itr : ∀ {A : Around} {E : Value → Shared → Prop} {s1 : Shared} {Q : Value → Shared → Prop}, s1.heap.get? l = some ol → Q (.ref s1.heap.objs.size) { s1 with heap := s1.heap.push itO } → wpAny (model P w) A (pyIter (.ref l)) Q E s1)
    (loop : ∀ (A' : Around) (R : Result → Shared → Prop) (tk : Tok), A'.handled = none →
      (∀ h' tk', Res h' → (∀ b o, s.heap.get? b = some o → h'.get? b = some o) → R (.ok (.ret .none)) { s with heap := h', toks := tk' }) →
      codeAny (model P w) A' (.builtin "set.update.loop" ⟨[.ref s.heap.objs.size, .ref (s.heap.push (S0 w)).objs.size], []⟩) R { s with heap := (s.heap.push (S0 w)).push itO, toks := tk })
    (q : ∀ h' tk, Res h' → (∀ b o, s.heap.get? b = some o → h'.get? b = some o) → Q (.ref s.heap.objs.size) { s with heap := h', toks := tk }) :
    wpAny (model P w) A (call (.type "set") [.ref l]) Q E s := by
  obtain ⟨_, _, mro⟩ := F.called_set.mro; have made := F.called_set.made; have sub := F.called_set.sub; have k1 := F.called_set.notType; have k2 := F.called_set.canCreate; have ct := F.typeCall_set_1 (.ref l)
  refine wpAny_call (codeAny_of_tree ?_); show wpAny _ _ (callAny (.type "set") _) _ _ _
  refine wpAny_pure ⟨Code.quiet_builtin _ (by decide +kernel), codeAny_builtin F.entry_type_call ?_⟩; rw [Around.under_plain (weight_type_call_type "set" [.ref l] []) rfl]
  repeat any_goals first | assumption | wp_step
  refine codeAny_mono (code_set_led1 (.ref l) (E := E) (Q₁ := fun o s1 => o = .ref s.heap.objs.size ∧ s1 = { s with heap := s.heap.push (S0 w) }) ⟨rfl, rfl⟩) fun r s1 hr => ?_
  rcases r with e | (_ | _ | _ | o)
  · exact hr
  · exact hr.elim
  · exact hr.elim
  · exact hr.elim
  · obtain ⟨rfl, rfl⟩ := hr
    have hS : (s.heap.push (S0 w)).get? s.heap.objs.size = some (S0 w) := Heap.get?_push_size _ rfl
    have hT : Shared.TypeIs { s with heap := s.heap.push (S0 w) } (.ref s.heap.objs.size) "set" := ⟨_, hS, rfl⟩
    have il := F.called_set.init.lookup; have ib := F.called_set.init.bind (.ref s.heap.objs.size)
    repeat any_goals first | assumption | wp_step
    refine codeAny_mono (codeAny_call_builtin (R := wants (fun r s2 => r = .none ∧ ∃ h' tk, s2 = { s with heap := h', toks := tk } ∧ Res h' ∧ (∀ b o, s.heap.get? b = some o → h'.get? b = some o)) E) F.called_set.init.plain F.entry_set_init (check_set_init_1 hT ?_)) fun r2 s2 h2 => ?_
    · have e1 : (s.heap.push (S0 w)).get? l = some ol := Heap.get?_push_of_some _ hol
      have hTl : Shared.TypeIs { s with heap := s.heap.push (S0 w) } (.ref l) T := ⟨ol, e1, hcl⟩
      unfold Builtin.«set.__init__» noKeywords Builtin.Frozenset.updateFrom
      generalize hI : pyIter = PI
      obtain ⟨c, d, da, sl⟩ := ol
      dsimp only at hcl
      subst hcl
      wp_walk
      subst hI
      refine itr e1 (wpAny_bind (wpAny_runValue (loop _ _ _ (by simp [hh]) fun h' tk r k => ?_)))
      exact wpAny_pure (wpAny_pure ⟨rfl, h', tk, rfl, r, k⟩)
    · rcases r2 with e | (_ | _ | _ | o)
      · exact h2
      · exact h2.elim
      · exact h2.elim
      · exact h2.elim
      · obtain ⟨rfl, h', tk, rfl, r, k⟩ := h2
        repeat any_goals first | assumption | wp_step
        exact q _ _ r k
end
end St

namespace St
open PySem PySem.Spec PyProof.Rows L2 PySem.Froz
section
variable {P : Program} {w : World} {A : Around} {E : Value → Shared → Prop} {s : Shared}
theorem lkp {h : Heap} {o o' : Obj} {b : Addr} {u : Obj} (e : h.get? b = some u) : ((h.push o).push o').get? b = some u := Heap.get?_push_of_some _ (Heap.get?_push_of_some _ e)
/-- what the loop of the update leaves -/
theorem moved_end {s s' : Shared} {h1 : Heap} {tk : Tok} {S I : Addr} (hS : S = s.heap.objs.size) (hI : s.heap.objs.size ≤ I) (old : ∀ b o, s.heap.get? b = some o → h1.get? b = some o)
    (m : Moved [S, I] (fun a b => b = a) { s with heap := h1, toks := tk } s') : s' = { s with heap := s'.heap, toks := s'.toks } ∧ ∀ b o, s.heap.get? b = some o → s'.heap.get? b = some o := by
  refine ⟨?_, fun b o e => m.heap b o (fun z => ?_) (old b o e)⟩
  · have g := m.gens
    have d := m.drawn
    have os := m.os
    cases s'
    dsimp only at g d os ⊢
    rw [g, d, os]
  · have lt := Heap.lt_size e
    rcases List.mem_cons.mp z with z | z
    · exact absurd lt (by rw [z, hS]; exact Nat.lt_irrefl _)
    · exact absurd lt (by rw [List.mem_singleton.mp z]; exact Nat.not_lt_of_le hI)
theorem places {l : Addr} (lt : l < s.heap.objs.size) : l ≠ (s.heap.push (S0 w)).objs.size ∧ s.heap.objs.size ∉ [(s.heap.push (S0 w)).objs.size, l] ∧ s.heap.objs.size ≤ (s.heap.push (S0 w)).objs.size := by
  rw [Heap.size_push]
  refine ⟨Nat.ne_of_lt (Nat.lt_succ_of_lt lt), fun z => ?_, Nat.le_succ _⟩
  rcases List.mem_cons.mp z with z | z
  · exact absurd z (Nat.ne_of_lt (Nat.lt_succ_self _))
  · exact absurd (List.mem_singleton.mp z) (Nat.ne_of_gt lt)
/-- set(x), texts, x a list or a tuple -/
theorem set_texts {l : Addr} {its : Array Value} {xs : List Str} {Q : Value → Shared → Prop} (hh : A.handled = none) (hl : s.heap.IsList l its ∨ s.heap.IsTuple l its) (hx : StrsAre its.toList xs) (hb : xs.length + 1 < scanBound)
    (q : ∀ h' tk m, TS P w h' s.heap.objs.size m → m.length ≤ xs.length → (∀ x, x ∈ m ↔ x ∈ xs) → (∀ b o, s.heap.get? b = some o → h'.get? b = some o) → Q (.ref s.heap.objs.size) { s with heap := h', toks := tk }) :
    wpAny (model P w) A (call (.type "set") [.ref l]) Q E s := by
  have len : its.size = xs.length := by rw [← Array.length_toList]; exact hx.len_eq
  have val : ∀ i v, its[i]? = some v → ∃ x t, xs[i]? = some x ∧ v = Value.str x t := fun i v e => by
    rw [← Array.getElem?_toList] at e
    have hi : i < xs.length := by rw [← hx.len_eq]; exact (List.getElem?_eq_some_iff.mp e).1
    obtain ⟨t, et⟩ := hx.at (List.getElem?_eq_getElem hi)
    exact ⟨xs[i], t, List.getElem?_eq_getElem hi, Option.some.inj (e.symm.trans et)⟩
  have fin : ∀ (I : Addr), I = (s.heap.push (S0 w)).objs.size → I = s.heap.objs.size + 1 := fun I e => e.trans (Heap.size_push ..)
  have start : ∀ o', TS P w ((s.heap.push (S0 w)).push o') s.heap.objs.size [] := fun o' =>
    ⟨(#[], 0, .fresh 0 0 (!w.params.followText "set-order")), Heap.get?_push_of_some _ (Heap.get?_push_size _ rfl), TxOk.nil rfl, List.Pairwise.nil, by
      show _ ∨ (!w.params.followText "set-order") = true
      cases w.params.followText "set-order" <;> simp, List.nodup_nil⟩
  rcases hl with ⟨ol, e, c, n, d⟩ | ⟨ol, e, c, n, d⟩
  · refine set_call (Res := fun h' => ∃ m, TS P w h' s.heap.objs.size m ∧ m.length ≤ xs.length ∧ ∀ x, x ∈ m ↔ x ∈ xs) hh e c F.sub_list_set F.sub_list_frozenset (by decide) (fun {_ _ s1 _} e1 h => wpAny_pyIter_list (s := s1) ⟨ol, e1, c, n, d⟩ h) (fun A' R tk ha hR => ?_) fun h' tk ⟨m, r1, r2, r3⟩ k => q h' tk m r1 r2 r3 k
    have lt := Heap.lt_size e
    obtain ⟨ne, nin, up⟩ := places (w := w) lt
    refine upd_texts (s := { s with heap := (s.heap.push (S0 w)).push _, toks := tk }) ((Walks.list (A := A'.in1) (by simpa using ha) _ l ne its).toS) (S := s.heap.objs.size) nin len hb val (its.size - 0) 0 [] (by omega) (Nat.zero_le _)
      ⟨⟨_, Heap.get?_push_size _ rfl, rfl, rfl⟩, ⟨ol, lkp e, c, n, d⟩⟩ (start _) (Nat.zero_le _) (fun x => by simp) fun s' m mv r1 r2 r3 => ?_
    obtain ⟨es, k⟩ := moved_end rfl up (fun b o z => lkp z) mv
    rw [es]
    exact hR _ _ ⟨m, r1, by omega, r3⟩ k
  · refine set_call (Res := fun h' => ∃ m, TS P w h' s.heap.objs.size m ∧ m.length ≤ xs.length ∧ ∀ x, x ∈ m ↔ x ∈ xs) hh e c F.sub_tuple_set F.sub_tuple_frozenset (by decide) (fun {_ _ s1 _} e1 h => wpAny_pyIter_tuple (s := s1) ⟨ol, e1, c, n, d⟩ h) (fun A' R tk ha hR => ?_) fun h' tk ⟨m, r1, r2, r3⟩ k => q h' tk m r1 r2 r3 k
    have lt := Heap.lt_size e
    obtain ⟨ne, nin, up⟩ := places (w := w) lt
    refine upd_texts (s := { s with heap := (s.heap.push (S0 w)).push _, toks := tk }) ((Walks.tuple (A := A'.in1) (by simpa using ha) _ l ne its).toS) (S := s.heap.objs.size) nin len hb val (its.size - 0) 0 [] (by omega) (Nat.zero_le _)
      ⟨⟨_, Heap.get?_push_size _ rfl, rfl, rfl⟩, ⟨ol, lkp e, c, n, d⟩⟩ (start _) (Nat.zero_le _) (fun x => by simp) fun s' m mv r1 r2 r3 => ?_
    obtain ⟨es, k⟩ := moved_end rfl up (fun b o z => lkp z) mv
    rw [es]
    exact hR _ _ ⟨m, r1, by omega, r3⟩ k
/-- set(x), ints, x a list or a tuple -/
theorem set_ints {l : Addr} {its : Array Value} {xs : List Int} {Q : Value → Shared → Prop} (hh : A.handled = none) (hl : s.heap.IsList l its ∨ s.heap.IsTuple l its) (hx : IntsAre its.toList xs) (hb : xs.length + 1 < scanBound)
    (q : ∀ h' tk c, SetR w h' s.heap.objs.size (fun j => decide (j ∈ xs)) c → c ≤ xs.length → (∀ b o, s.heap.get? b = some o → h'.get? b = some o) → Q (.ref s.heap.objs.size) { s with heap := h', toks := tk }) :
    wpAny (model P w) A (call (.type "set") [.ref l]) Q E s := by
  have len : its.size = xs.length := by rw [← Array.length_toList]; exact hx.length
  have val : ∀ i v, its[i]? = some v → ∃ k t, xs[i]? = some k ∧ v = Value.int k t := fun i v e => by
    have hi : i < xs.length := by rw [← len]; exact (Array.getElem?_eq_some_iff.mp e).1
    obtain ⟨t, et⟩ := IntsAre.int_at hx i v (by rw [Array.getElem?_toList]; exact e)
    exact ⟨xs[i], t, List.getElem?_eq_getElem hi, by rw [et, List.getD_eq_getElem?_getD, List.getElem?_eq_getElem hi] <;> rfl⟩
  have start : ∀ o', SetR w ((s.heap.push (S0 w)).push o') s.heap.objs.size (fun j => decide (j ∈ xs.take 0)) 0 := fun o' => setR_new_at (Heap.get?_push_of_some _ (Heap.get?_push_size _ rfl))
  rcases hl with ⟨ol, e, c, n, d⟩ | ⟨ol, e, c, n, d⟩
  · refine set_call (Res := fun h' => ∃ c, SetR w h' s.heap.objs.size (fun j => decide (j ∈ xs)) c ∧ c ≤ xs.length) hh e c F.sub_list_set F.sub_list_frozenset (by decide) (fun {_ _ s1 _} e1 h => wpAny_pyIter_list (s := s1) ⟨ol, e1, c, n, d⟩ h) (fun A' R tk ha hR => ?_) fun h' tk ⟨m, r1, r2⟩ k => q h' tk m r1 r2 k
    have lt := Heap.lt_size e
    obtain ⟨ne, nin, up⟩ := places (w := w) lt
    refine set_update_ints (s := { s with heap := (s.heap.push (S0 w)).push _, toks := tk }) ((Walks.list (A := A'.in1) (by simpa using ha) _ l ne its).toS) s.heap.objs.size nin xs len hb val (its.size - 0) 0 (by omega) (Nat.zero_le _)
      ⟨⟨_, Heap.get?_push_size _ rfl, rfl, rfl⟩, ⟨ol, lkp e, c, n, d⟩⟩ ⟨0, Nat.le_refl 0, start _⟩ fun s' c' mv r2 r1 => ?_
    obtain ⟨es, k⟩ := moved_end rfl up (fun b o z => lkp z) mv
    rw [es]
    exact hR _ _ ⟨c', r1, by omega⟩ k
  · refine set_call (Res := fun h' => ∃ c, SetR w h' s.heap.objs.size (fun j => decide (j ∈ xs)) c ∧ c ≤ xs.length) hh e c F.sub_tuple_set F.sub_tuple_frozenset (by decide) (fun {_ _ s1 _} e1 h => wpAny_pyIter_tuple (s := s1) ⟨ol, e1, c, n, d⟩ h) (fun A' R tk ha hR => ?_) fun h' tk ⟨m, r1, r2⟩ k => q h' tk m r1 r2 k
    have lt := Heap.lt_size e
    obtain ⟨ne, nin, up⟩ := places (w := w) lt
    refine set_update_ints (s := { s with heap := (s.heap.push (S0 w)).push _, toks := tk }) ((Walks.tuple (A := A'.in1) (by simpa using ha) _ l ne its).toS) s.heap.objs.size nin xs len hb val (its.size - 0) 0 (by omega) (Nat.zero_le _)
      ⟨⟨_, Heap.get?_push_size _ rfl, rfl, rfl⟩, ⟨ol, lkp e, c, n, d⟩⟩ ⟨0, Nat.le_refl 0, start _⟩ fun s' c' mv r2 r1 => ?_
    obtain ⟨es, k⟩ := moved_end rfl up (fun b o z => lkp z) mv
    rw [es]
    exact hR _ _ ⟨c', r1, by omega⟩ k
end
end St

namespace St
open PySem PySem.Spec PyProof.Rows L2 PySem.Froz
/-- the set of the texts m -/
def SetT (P : Program) (w : World) (a : Addr) (m : List Str) : HO := .ext fun h => TS P w h a m
theorem setT_new {P : Program} {w : World} {H : Hp} {h : Heap} {a : Addr} {m : List Str} (R : TS P w h a m) : ObjOk P w H h a (SetT P w a m) := by
  have ⟨D, e, _⟩ := R
  exact ⟨R, ⟨_, e⟩, fun h1 h2 p k => TS.at p k⟩
section
variable {X : Cx}
/-- what a list or a tuple holds -/
def SqX (K : PySem.W.Frag) (H : Hp) (a : Addr) (xs : List V) : Prop := SqL K H a xs ∨ SqT K H a xs
theorem inv_any {pins : List (Addr × Obj)} {σ : L2.St} {H : Hp} {s : Shared} {a : Addr} {xs : List V} (I : Inv X pins σ H s) (h : SqX X.K H a xs) : ∃ its : List Value, Vals xs its ∧ (s.heap.IsList a its.toArray ∨ s.heap.IsTuple a its.toArray) := by
  rcases h with h | h
  · obtain ⟨its, r, l, _⟩ := I.list h
    exact ⟨its, r, .inl l.isList⟩
  · obtain ⟨its, r, l, _⟩ := I.tuple h
    exact ⟨its, r, .inr l⟩
def rSetT (K : PySem.W.Frag) (P : Program) (w : World) : List V → Hp → VK → Prop := fun xs H Q => ∃ (l : Addr) (ns : List Str), xs = [.ref l] ∧ SqX K H l (ns.map V.str) ∧ ns.length ≤ 1000 ∧
  ∀ a m, H a = none → m.Nodup → m.length ≤ ns.length → (∀ x, x ∈ m ↔ x ∈ ns) → Q (.ref a) (upd H a (SetT P w a m))
theorem cr_setT (hc : X.calm = true) : CallR X (.type "set") (rSetT X.K X.prog X.w) := by
  intro pins s σ H xs us Q I r h
  obtain ⟨l, ns, rfl, hl, hb, q⟩ := h
  rw [Vals.ref1 r]
  obtain ⟨its, rv, hi⟩ := inv_any I hl
  refine set_texts (xs := ns) (I.ok.hd hc) hi (by simpa using rv.strs) (Nat.lt_of_le_of_lt (Nat.succ_le_succ hb) (by decide)) fun h' tk m R ml mm k => ?_
  obtain ⟨D, e, F, a3, a4, nd⟩ := id R
  exact ⟨.ref s.heap.objs.size, _, I.laid (t' := tk) k (Nat.le_refl _) (setT_new R), rfl, q _ m (I.hok.fresh (Nat.le_refl _)) nd ml mm⟩
def rSetI (K : PySem.W.Frag) (w : World) : List V → Hp → VK → Prop := fun xs H Q => ∃ (l : Addr) (ns : List Int), xs = [.ref l] ∧ SqX K H l (ns.map V.int) ∧ ns.length ≤ 1000 ∧
  ∀ a c, H a = none → c ≤ ns.length → Q (.ref a) (upd H a (SetO w a (fun j => decide (j ∈ ns)) c))
theorem cr_setI (hc : X.calm = true) : CallR X (.type "set") (rSetI X.K X.w) := by
  intro pins s σ H xs us Q I r h
  obtain ⟨l, ns, rfl, hl, hb, q⟩ := h
  rw [Vals.ref1 r]
  obtain ⟨its, rv, hi⟩ := inv_any I hl
  refine set_ints (xs := ns) (I.ok.hd hc) hi (by simpa using ints_of_vals rv) (Nat.lt_of_le_of_lt (Nat.succ_le_succ hb) (by decide)) fun h' tk c R cl k => ?_
  exact ⟨.ref s.heap.objs.size, _, I.laid (t' := tk) k (Nat.le_refl _) (setO_new R), rfl, q _ c (I.hok.fresh (Nat.le_refl _)) cl⟩
/-- sorted of a set of texts -/
def rSortT (P : Program) (w : World) : List V → Hp → VK → Prop := fun xs H Q => ∃ (a : Addr) (m : List Str), xs = [.ref a] ∧ H a = some (SetT P w a m) ∧ m.length ≤ 1000 ∧
  ∀ ys p, ys.Perm m → sortedS ys = true → H p = none → Q (.ref p) (upd H p (.lst (ys.map V.str)))
theorem strs_of : ∀ l : List Value, (∀ v ∈ l, ∃ x t, v = Value.str x t) → ∃ xs, StrsAre l xs
  | [], _ => ⟨[], .nil⟩
  | v :: l, h => by
    obtain ⟨x, t, rfl⟩ := h v List.mem_cons_self
    obtain ⟨xs, r⟩ := strs_of l fun u hu => h u (List.mem_cons_of_mem _ hu)
    exact ⟨x :: xs, .cons x t r⟩
theorem strs_vals : ∀ {l : List Value} {xs : List Str}, StrsAre l xs → ∀ x, x ∈ xs ↔ ∃ t, Value.str x t ∈ l
  | _, _, .nil => fun x => by simp
  | _, _, .cons y t r => fun x => by
    rw [List.mem_cons, strs_vals r x]
    constructor
    · rintro (rfl | ⟨u, hu⟩)
      · exact ⟨t, List.mem_cons_self⟩
      · exact ⟨u, List.mem_cons_of_mem _ hu⟩
    · rintro ⟨u, hu⟩
      rcases List.mem_cons.mp hu with z | z
      · cases z; exact .inl rfl
      · exact .inr ⟨u, z⟩
theorem perm_of : ∀ {b a : List Str}, b.Nodup → a.length = b.length → (∀ x, x ∈ b → x ∈ a) → a.Perm b
  | [], a, _, hl, _ => by
    obtain rfl : a = [] := List.length_eq_zero_iff.mp hl
    exact .refl _
  | x :: b, a, nd, hl, h => by
    obtain ⟨n1, n2⟩ := List.nodup_cons.mp nd
    have hx : x ∈ a := h x List.mem_cons_self
    have pe := List.perm_cons_erase hx
    refine pe.trans (.cons x (perm_of n2 ?_ fun y hy => ?_))
    · have := pe.length_eq
      rw [List.length_cons] at this hl
      omega
    · have ne : y ≠ x := fun z => n1 (z ▸ hy)
      exact (List.mem_erase_of_ne ne).mpr (h y (List.mem_cons_of_mem _ hy))
theorem cr_sortT (hc : X.calm = true) : CallR X (.builtin "sorted") (rSortT X.prog X.w) := by
  intro pins s σ H xs us Q I r h
  obtain ⟨a, m, rfl, ha, hb, q⟩ := h
  rw [Vals.ref1 r]
  obtain ⟨⟨es, ep, t⟩, e, F, ris, led, nd⟩ := id (show TS X.prog X.w s.heap a m from (I.hok a _ ha).1)
  have sz : es.size = m.length := F.sz
  have room : es.size < scanBound := by rw [sz]; exact Nat.lt_of_le_of_lt hb (by decide)
  refine Calls.call_function_entry kind_sorted plain_sorted entry_sorted (args_sorted1 _) ?_; unfold Builtin.«sorted»
  refine wpAny_bind (m := checkCount "sorted" 1 1 _) (wpAny_pure (wpAny_bind (collect_set (A := X.A.in1) (I.ok.hd hc) ⟨_, e, rfl, rfl⟩ F.fit room ris led fun s1 vs k1 z1 g1 o1 pm => ?_)))
  have vl : vs.length = m.length := by rw [pm.length_eq, List.length_map, Array.length_toList, sz]
  obtain ⟨ss, hS⟩ := strs_of vs fun v hv => by
    obtain ⟨x, hx, rfl⟩ := List.mem_map.mp (pm.mem_iff.mp hv)
    obtain ⟨⟨k, hk, _⟩, _⟩ := F.el x hx
    obtain ⟨u, hu⟩ := Value.isStrOf_shape (show Value.isStrOf k x.2 = true from hk)
    exact ⟨k, u, hu⟩
  have sm : ss.Perm m := perm_of nd (by rw [← hS.len_eq, vl]) fun x hx => by
    obtain ⟨y, hy, hk⟩ := (F.mem x).mp hx
    obtain ⟨u, hu⟩ := Value.isStrOf_shape (show Value.isStrOf x y.2 = true from hk)
    exact (strs_vals hS x).mpr ⟨u, hu ▸ pm.mem_iff.mpr (List.mem_map.mpr ⟨y, hy, rfl⟩)⟩
  have line : vs.length ≤ sizeLine := by rw [vl, sizeLine_eq]; omega
  refine wpAny_bind (wpAny_newList ?_ line)
  have hoL : (s1.heap.push (seqObj "list" vs.toArray 0)).get? s1.heap.objs.size = some (seqObj "list" vs.toArray 0) := Heap.get?_push_size _ rfl
  refine wpAny_bind (wpAny_holding (wpAny_call_entry PyProof.Rows.slot_list_sort ⟨_, hoL, rfl⟩ PyProof.Rows.entry_list_sort (list_sort_treeKAny strKind_oneLt hoL hS.keysOf (fun v1 v2 rest z => keyKind_strs (by rw [← z]; exact hS)) line fun st hp hs => ⟨_, rfl, ?_⟩) (PyProof.Rows.args_list_sort _)))
  obtain ⟨ys, y1, y2, y3⟩ := sorted_out_str hS hp hs
  obtain ⟨c, hcx⟩ := sortedHeap_at (vs := vs) (out := (arrOf st).map (·.2)) hoL
  have old : ∀ b u, s.heap.get? b = some u → (sortedHeap (s1.heap.push (seqObj "list" vs.toArray 0)) s1.heap.objs.size vs ((arrOf st).map (·.2))).get? b = some u := fun b u eb => by
    have q1 := k1 b u eb
    rw [sortedHeap_old (Nat.ne_of_lt (Heap.lt_size q1)) (by rw [size_push']; exact Nat.lt_succ_of_lt (Heap.lt_size q1))]
    exact Heap.get?_push_of_some _ q1
  have zl : (ys.map V.str).length ≤ sizeLine := by rw [List.length_map, (y2.trans sm).length_eq, sizeLine_eq]; omega
  have hn : H s1.heap.objs.size = none := I.hok.fresh z1
  have J : Inv X pins σ (upd H s1.heap.objs.size (.lst (ys.map V.str))) { s with heap := sortedHeap (s1.heap.push (seqObj "list" vs.toArray 0)) s1.heap.objs.size vs ((arrOf st).map (·.2)), gens := s1.gens, drawn := s1.drawn, toks := s1.toks } :=
    I.call (ch := []) (Un.laid old z1 hn) (I.hok.laid old z1 ⟨zl, ((arrOf st).map (·.2)).toList, c, vals_of_strs y1, hcx⟩) (by rw [g1]; exact I.bare) (fun _ z => nomatch z)
  refine wpAny_pure ⟨_, rfl, .ref s1.heap.objs.size, _, ?_, rfl, q ys _ (y2.trans sm) y3 hn⟩
  cases s1; cases s; dsimp only at o1; subst o1
  exact J
end
end St

namespace Hb
open PySem PySem.Spec PyProof.Rows L2
/-! ### heaps -/
theorem same_new {H : Hp} {p : Addr} (h : H p = none) (o : HO) : Same H (upd H p o) := fun b u q => by
  rw [upd_ne (ne_of_none q h)]
  exact q
/-- a new object -/
theorem new_at {H : Hp} {p : Addr} {o : HO} {G : Hp → Prop} (h : H p = none) (k : ∀ H', Same H H' → H' p = some o → G H') : G (upd H p o) := k _ (same_new h o) upd_same
/-- a new tuple, a new list as the value of a display -/
theorem tup_at {H : Hp} {xs : List V} {Q : VK} (hl : xs.length ≤ 1000) (k : ∀ p H', H p = none → Same H H' → H' p = some (.tup xs) → Q (.ref p) H') : xs.length ≤ sizeLine ∧ ∀ p, H p = none → Q (.ref p) (upd H p (.tup xs)) :=
  ⟨Nat.le_trans hl (by decide), fun p hp => k p _ hp (same_new hp _) upd_same⟩
theorem lst_at {H : Hp} {xs : List V} {Q : VK} (hl : xs.length ≤ 1000) (k : ∀ p H', H p = none → Same H H' → H' p = some (.lst xs) → Q (.ref p) H') : xs.length ≤ sizeLine ∧ ∀ p, H p = none → Q (.ref p) (upd H p (.lst xs)) :=
  ⟨Nat.le_trans hl (by decide), fun p hp => k p _ hp (same_new hp _) upd_same⟩
/-- all but the object at p is as it was -/
def Kept (p : Addr) (H H' : Hp) : Prop := ∀ b o, H b = some o → b ≠ p → H' b = some o
theorem Same.kept {H H' : Hp} {p : Addr} (h : Same H H') : Kept p H H' := fun b o e _ => h b o e
theorem Kept.refl (p : Addr) (H : Hp) : Kept p H H := fun _ _ h _ => h
theorem Kept.trans {p : Addr} {H H1 H2 : Hp} (a : Kept p H H1) (b : Kept p H1 H2) : Kept p H H2 := fun c o h n => b c o (a c o h n) n
theorem kept_upd {p : Addr} {H : Hp} {o : HO} : Kept p H (upd H p o) := fun b u e n => by rw [upd_ne n]; exact e
/-- a tuple stays where the list at p changes -/
theorem Kept.tup {p t : Addr} {H H' : Hp} {xs ys : List V} (k : Kept p H H') (hp : H p = some (.lst ys)) (h : H t = some (.tup xs)) : H' t = some (.tup xs) := k t _ h (ne_of h hp (by intro z; cases z))

/-! ### tests -/
theorem iteD {c A B : Prop} [Decidable c] (h1 : c → A) (h2 : ¬ c → B) : if decide c = true then A else B := by
  by_cases h : c
  · rw [decide_eq_true h]
    exact iteT (h1 h)
  · rw [decide_eq_false h]
    exact iteF (h2 h)
theorem iteN {c A B : Prop} [Decidable c] (h1 : ¬ c → A) (h2 : c → B) : if (!decide c) = true then A else B := by
  by_cases h : c
  · rw [decide_eq_true h]
    exact iteF (h2 h)
  · rw [decide_eq_false h]
    exact iteT (h1 h)
theorem divw {i j : Int} (h0 : 0 < j) (h : j < 2 ^ 100) : CDivW i j := wide_div (b := 100) h0 (by omega) (by decide) (by decide)

/-! ### the defs of a text, by their promises -/
structure Cl (P : Program) (w : World) (K : PySem.W.Frag) (mg : Str → Option Value) (base : Heap) (x : Str) (ps : List Str) (dvs : List V) (lv : Nat) (sp : Sp) : Prop where
  ex : ∃ (f : Addr) (fd : FuncData) (ds : List Value), FnOk P w K mg base CX0 lv f fd ps sp ∧ mg x = some (.ref f) ∧ PySem.W.keepIn K (.ref f) = true ∧ Binds K fd ps ds ∧ Vals dvs ds
section
variable {X : Cx} {ps : List Str} {dvs : List V} {lv : Nat} {sp : Sp} {x : Str} {p pos : Pos} {e : Expr} {es : List Expr} {t : TA}
theorem pe_use (C : Cl X.prog X.w X.K X.mg X.base x ps dvs lv sp) (hr : Room lv X.A) (hg : Gl X x) (ha : PA X (e :: es) t) (hdb : (x == ("__debug__" : Str)) = false := by decide)
    (he : starEach (e :: es) X.env = (false, eval e X.env) :: starEach es X.env := by rfl) (hpl : (backTo pos (starEach es X.env)).any (·.1) = false := by rfl) : PE X (.Call (.Name x p) (e :: es) [] pos) (tCall sp dvs E0 t) := by
  obtain ⟨f, fd, ds, F, hm, hk, hb, hd⟩ := C.ex
  exact pe_call F hr hg hm hk hb hd pass0 ha hdb he hpl
theorem pe_use0 (C : Cl X.prog X.w X.K X.mg X.base x ps dvs lv sp) (hr : Room lv X.A) (hg : Gl X x) (hdb : (x == ("__debug__" : Str)) = false := by decide) : PE X (.Call (.Name x p) [] [] pos) (tCall sp dvs E0 tNil) := by
  obtain ⟨f, fd, ds, F, hm, hk, hb, hd⟩ := C.ex
  exact pe_call0 F hr hg hm hk hb hd pass0 hdb
end
/-- f(k = v, ..) without a value by place -/
structure ClK (P : Program) (w : World) (K : PySem.W.Frag) (mg : Str → Option Value) (base : Heap) (x : Str) (ps : List Str) (n : Nat) (ks : List Str) (gV : List V → List V → List V) (lv : Nat) (sp : Sp) : Prop where
  ex : ∃ (f : Addr) (fd : FuncData) (g : List Value → List Value → List Value), FnOk P w K mg base CX0 lv f fd ps sp ∧ mg x = some (.ref f) ∧ PySem.W.keepIn K (.ref f) = true ∧ KBn K fd ps n ks g gV
section
variable {X : Cx} {ps ks : List Str} {n : Nat} {gV : List V → List V → List V} {lv : Nat} {sp : Sp} {x : Str} {p pos : Pos} {e : Expr} {es : List Expr} {t tk : TA} {kws : List Keyword}
theorem pe_useK0 (C : ClK X.prog X.w X.K X.mg X.base x ps 0 ks gV lv sp) (hr : Room lv X.A) (hg : Gl X x) (hkw : PK X kws tk) (hall : (backToKw pos (keywordEach kws X.env)).all (·.1.isSome) = true := by rfl) (hks : (backToKw pos (keywordEach kws X.env)).filterMap (·.1) = ks := by rfl)
    (hdb : (x == ("__debug__" : Str)) = false := by decide) (hpl : ((backTo pos (starEach [] X.env)).any (·.1) || (backToKw pos (keywordEach kws X.env)).any (·.1.isNone)) = false := by rfl) :
    PE X (.Call (.Name x p) [] kws pos) (tCallN 0 ks.length sp gV E0 tNil tk) := by
  obtain ⟨f, fd, g, F, hm, hk, hb⟩ := C.ex
  refine ⟨fun pins s σ H Q I h => ?_⟩
  refine wpAny_Call_Name_kw (ld_glob I hg hm ?_ hdb)
  refine PySem.W.callWith_KW0 (h₀ := X.base) I.ok.mod.kin hk hall ?_ hpl
  refine thn (hkw.run pos pins s σ H _ I h) fun ws s2 ⟨zs, H2, I2, rz, l1, l2, q2⟩ => ⟨I2.kIn, ?_⟩
  rw [hks]
  exact run_fnN (us := []) (vs := []) F hr hb pass0 I2 .nil rz rfl l2 q2
theorem pe_useK (C : ClK X.prog X.w X.K X.mg X.base x ps n ks gV lv sp) (hr : Room lv X.A) (hg : Gl X x) (ha : PA X (e :: es) t) (hkw : PK X kws tk) (hall : (backToKw pos (keywordEach kws X.env)).all (·.1.isSome) = true := by rfl)
    (hks : (backToKw pos (keywordEach kws X.env)).filterMap (·.1) = ks := by rfl)
    (hdb : (x == ("__debug__" : Str)) = false := by decide) (he : starEach (e :: es) X.env = (false, eval e X.env) :: starEach es X.env := by rfl)
    (hpl : ((backTo pos (starEach (e :: es) X.env)).any (·.1) || (backToKw pos (keywordEach kws X.env)).any (·.1.isNone)) = false := by rfl) :
    PE X (.Call (.Name x p) (e :: es) kws pos) (tCallN n ks.length sp gV E0 t tk) := by
  obtain ⟨f, fd, g, F, hm, hk, hb⟩ := C.ex
  exact pe_callN F hr hg hm hk hb pass0 ha hkw hall hks hdb he hpl
end
/-- positional and keyword arguments that fill all parameters of a def with defaults -/
theorem kb_full {K : PySem.W.Frag} {x qual : Str} {params : Arguments} {body : List Stmt} {scope : Scope} {dvs : List V} {f : Addr} {fd : FuncData} {ps : List Str} (F : FunD K x qual params body scope dvs [] f fd) (n : Nat) (ks : List Str) (g : {α : Type} → List α → List α → List α → List α) (hd : dvs ≠ [])
    (hrel : ∀ {vs ds zs : List V} {us its ws : List Value}, Vals vs us → Vals ds its → Vals zs ws → Vals (g vs ds zs) (g us its ws))
    (h : ∀ (T : Addr) (kV doc pm : Value) (an : Option Addr) (cdv ct : Value) (us its ws : List Value), us.length = n → its.length = dvs.length → ws.length = ks.length →
      ∃ k, bindArgs (PySem.W.fnOf x qual params body scope (.ref T) kV doc pm an cdv ct) ⟨us, ks.zip ws⟩ = seqItems? (.ref T) >>= k ∧ k (some its.toArray) = pure (ps.zip (g us its ws))) :
    ∃ its : List Value, KBn K fd ps n ks (fun us ws => g us its ws) (fun vs zs => g vs dvs zs) := by
  obtain ⟨oc, od, dV, kV, doc, pm, an, cdv, ct, osl, rfl, lk, hcd, hD, hK⟩ := F.ex
  rcases hD with ⟨e, _⟩ | ⟨_, T, o, its, m, rfl, lT, oT, rT⟩
  · exact absurd e hd
  · refine ⟨its, ⟨fun s us ws X l1 l2 => ?_, fun r1 r2 => hrel r1 rT r2⟩⟩
    obtain ⟨k, e1, e2⟩ := h T kV doc pm an cdv ct us its ws l1 rT.length.symm l2
    refine BindsTo.of_looks fun M => ?_
    rw [e1]
    exact looks_items X lT oT (.of_pure e2)
end Hb

namespace St
open PySem PySem.Spec PyProof.Rows L2 PySem.Froz
/-! ### lots: what sorted(set(..)) is -/
def sLt (a b : Str) : Prop := a.cps.toList < b.cps.toList
instance (a b : Str) : Decidable (sLt a b) := inferInstanceAs (Decidable (_ < _))
theorem sLt_irr (a : Str) : ¬ sLt a a := List.lt_irrefl _
theorem sLt_tr {a b c : Str} (h : sLt a b) (k : sLt b c) : sLt a c := List.lt_trans h k
theorem sLt_as {a b : Str} (h : sLt a b) : ¬ sLt b a := fun k => sLt_irr a (sLt_tr h k)
theorem sLt_eq {a b : Str} (h : ¬ sLt a b) (k : ¬ sLt b a) : a = b := by
  have e : a.cps.toList = b.cps.toList := List.le_antisymm (List.not_lt.mp k) (List.not_lt.mp h)
  cases a; cases b
  exact congrArg Str.mk (Array.toList_inj.mp e)
section
variable {α : Type} (lt : α → α → Prop) [DecidableRel lt] [DecidableEq α]
def ins (x : α) : List α → List α
  | [] => [x]
  | y :: r => if x = y then y :: r else if lt x y then x :: y :: r else y :: ins x r
def lotBy : List α → List α
  | [] => []
  | x :: r => ins lt x (lotBy r)
theorem mem_ins {x y : α} : ∀ {l : List α}, y ∈ ins lt x l ↔ y = x ∨ y ∈ l
  | [] => by simp [ins]
  | z :: r => by
    unfold ins
    split
    · rename_i h; subst h; simp
    · split
      · simp
      · rw [List.mem_cons, mem_ins (l := r), List.mem_cons]
        exact ⟨fun h => h.elim (fun h => .inr (.inl h)) fun h => h.elim .inl fun h => .inr (.inr h), fun h => h.elim (fun h => .inr (.inl h)) fun h => h.elim .inl fun h => .inr (.inr h)⟩
theorem mem_lotBy {y : α} : ∀ {l : List α}, y ∈ lotBy lt l ↔ y ∈ l
  | [] => Iff.rfl
  | x :: r => by rw [lotBy, mem_ins, mem_lotBy (l := r), List.mem_cons]
theorem asc_ins (tri : ∀ a b, ¬ lt a b → ¬ a = b → lt b a) (tr : ∀ a b c, lt a b → lt b c → lt a c) {x : α} : ∀ {l : List α}, l.Pairwise lt → (ins lt x l).Pairwise lt
  | [], _ => List.pairwise_singleton _ _
  | y :: r, h => by
    obtain ⟨h1, h2⟩ := List.pairwise_cons.mp h
    unfold ins
    split
    · exact h
    · rename_i ne
      split
      · rename_i lxy
        exact List.pairwise_cons.mpr ⟨fun z hz => (List.mem_cons.mp hz).elim (fun e => e ▸ lxy) fun hz => tr _ _ _ lxy (h1 z hz), h⟩
      · rename_i nl
        refine List.pairwise_cons.mpr ⟨fun z hz => ?_, asc_ins tri tr h2⟩
        rcases (mem_ins lt).mp hz with rfl | hz
        · exact tri _ _ nl ne
        · exact h1 z hz
theorem asc_lotBy (tri : ∀ a b, ¬ lt a b → ¬ a = b → lt b a) (tr : ∀ a b c, lt a b → lt b c → lt a c) : ∀ l : List α, (lotBy lt l).Pairwise lt
  | [] => .nil
  | x :: r => asc_ins lt tri tr (asc_lotBy tri tr r)
theorem len_ins (x : α) : ∀ l : List α, (ins lt x l).length ≤ l.length + 1
  | [] => Nat.le_refl _
  | y :: r => by
    unfold ins
    split
    · exact Nat.le_succ _
    · split
      · exact Nat.le_refl _
      · exact Nat.succ_le_succ (len_ins x r)
theorem len_lotBy : ∀ l : List α, (lotBy lt l).length ≤ l.length
  | [] => Nat.le_refl _
  | x :: r => Nat.le_trans (len_ins lt x _) (Nat.succ_le_succ (len_lotBy r))
theorem asc_eq (irr : ∀ a, ¬ lt a a) (tr : ∀ a b c, lt a b → lt b c → lt a c) : ∀ {l m : List α}, l.Pairwise lt → m.Pairwise lt → (∀ x, x ∈ l ↔ x ∈ m) → l = m
  | [], [], _, _, _ => rfl
  | [], y :: m, _, _, h => absurd ((h y).mpr List.mem_cons_self) (by simp)
  | x :: l, [], _, _, h => absurd ((h x).mp List.mem_cons_self) (by simp)
  | x :: l, y :: m, hl, hm, h => by
    obtain ⟨l1, l2⟩ := List.pairwise_cons.mp hl
    obtain ⟨m1, m2⟩ := List.pairwise_cons.mp hm
    have e : x = y := by
      rcases List.mem_cons.mp ((h x).mp List.mem_cons_self) with z | z
      · exact z
      · rcases List.mem_cons.mp ((h y).mpr List.mem_cons_self) with u | u
        · exact u.symm
        · exact absurd (tr _ _ _ (m1 x z) (l1 y u)) (irr _)
    subst e
    rw [asc_eq irr tr l2 m2 fun z => ?_]
    constructor
    · intro hz
      rcases List.mem_cons.mp ((h z).mp (List.mem_cons_of_mem _ hz)) with e | e
      · subst e; exact absurd (l1 z hz) (irr z)
      · exact e
    · intro hz
      rcases List.mem_cons.mp ((h z).mpr (List.mem_cons_of_mem _ hz)) with e | e
      · subst e; exact absurd (m1 z hz) (irr z)
      · exact e
end
/-- the lot of texts, of ints -/
def lotS (l : List Str) : List Str := lotBy sLt l
def lotI (l : List Int) : List Int := lotBy (· < ·) l
theorem mem_lotS {x : Str} {l : List Str} : x ∈ lotS l ↔ x ∈ l := mem_lotBy _
theorem mem_lotI {x : Int} {l : List Int} : x ∈ lotI l ↔ x ∈ l := mem_lotBy _
theorem asc_lotS (l : List Str) : (lotS l).Pairwise sLt := asc_lotBy _ (fun a b h k => Decidable.byContradiction fun z => k (sLt_eq h z)) (fun _ _ _ => sLt_tr) l
theorem asc_lotI (l : List Int) : (lotI l).Pairwise (· < ·) := asc_lotBy _ (fun a b h k => (Int.lt_trichotomy a b).elim (absurd · h) fun z => z.elim (absurd · k) id) (fun _ _ _ => Int.lt_trans) l
theorem len_lotS (l : List Str) : (lotS l).length ≤ l.length := len_lotBy _ l
theorem len_lotI (l : List Int) : (lotI l).length ≤ l.length := len_lotBy _ l
theorem lotS_eq {ys l : List Str} (h : ys.Pairwise sLt) (m : ∀ x, x ∈ ys ↔ x ∈ l) : ys = lotS l := asc_eq sLt sLt_irr (fun _ _ _ => sLt_tr) h (asc_lotS l) fun x => (m x).trans mem_lotS.symm
theorem lotI_eq {ys l : List Int} (h : ys.Pairwise (· < ·)) (m : ∀ x, x ∈ ys ↔ x ∈ l) : ys = lotI l := asc_eq (· < ·) (fun _ => Int.lt_irrefl _) (fun _ _ _ => Int.lt_trans) h (asc_lotI l) fun x => (m x).trans mem_lotI.symm
theorem lotS_congr {l m : List Str} (h : ∀ x, x ∈ l ↔ x ∈ m) : lotS l = lotS m := lotS_eq (asc_lotS l) fun x => mem_lotS.trans (h x)
theorem lotI_congr {l m : List Int} (h : ∀ x, x ∈ l ↔ x ∈ m) : lotI l = lotI m := lotI_eq (asc_lotI l) fun x => mem_lotI.trans (h x)
theorem lotS_idem (l : List Str) : lotS (lotS l) = lotS l := lotS_congr fun _ => mem_lotS
theorem asc_nodupS {l : List Str} (h : l.Pairwise sLt) : l.Nodup := List.Pairwise.imp (S := (· ≠ ·)) (fun {a b} (k : sLt a b) (z : a = b) => sLt_irr b (z ▸ k)) h
theorem ris_asc : ∀ {l : List Str} {p : Str}, risingS p l = true → (p :: l).Nodup → (p :: l).Pairwise sLt
  | [], p, _, _ => List.pairwise_singleton _ _
  | x :: r, p, h, nd => by
    obtain ⟨h1, h2⟩ := Bool.and_eq_true_iff.mp (show (!ltCps x.cps.toList p.cps.toList && risingS x r) = true from h)
    obtain ⟨n1, n2⟩ := List.nodup_cons.mp nd
    have a := ris_asc h2 n2
    rw [ltCps_eq, Bool.not_eq_true'] at h1
    have nl : ¬ sLt x p := of_decide_eq_false h1
    have lp : sLt p x := Decidable.byContradiction fun z => n1 (by rw [sLt_eq z nl]; exact List.mem_cons_self)
    exact List.pairwise_cons.mpr ⟨fun z hz => (List.mem_cons.mp hz).elim (fun e => e ▸ lp) fun hz => sLt_tr lp ((List.pairwise_cons.mp a).1 z hz), a⟩
theorem sorted_asc {l : List Str} (h : sortedS l = true) (nd : l.Nodup) : l.Pairwise sLt := match l, h, nd with
  | [], _, _ => .nil
  | _ :: _, h, nd => ris_asc h nd
/-! ### the rules of tuple(sorted(set(x))) -/
section
variable {X : Cx}
theorem cr_or {f : Value} {r1 r2 : List V → Hp → VK → Prop} (a : CallR X f r1) (b : CallR X f r2) : CallR X f (fun xs H Q => r1 xs H Q ∨ r2 xs H Q) := fun pins s σ H xs us Q I r h => h.elim (a pins s σ H xs us Q I r) (b pins s σ H xs us Q I r)
@[irreducible] def rSet (K : PySem.W.Frag) (P : Program) (w : World) : List V → Hp → VK → Prop := fun xs H Q => rSetT K P w xs H Q ∨ rSetI K w xs H Q
@[irreducible] def rSorted2 (P : Program) (w : World) : List V → Hp → VK → Prop := fun xs H Q => rSortT P w xs H Q ∨ rSortedSet w xs H Q
theorem cr_set (hc : X.calm = true) : CallR X (.type "set") (rSet X.K X.prog X.w) := by unfold rSet; exact cr_or (cr_setT hc) (cr_setI hc)
theorem cr_sorted2 (hc : X.calm = true) : CallR X (.builtin "sorted") (rSorted2 X.prog X.w) := by unfold rSorted2; exact cr_or (cr_sortT hc) (cr_sortedSet hc)
end
/-- the reading of tuple(sorted(set(x))) -/
theorem rd_lotS {K : PySem.W.Frag} {P : Program} {w : World} {H : Hp} {a : Addr} {ns : List Str} {Q : VK} (h : SqX K H a (ns.map V.str)) (hl : ns.length ≤ 1000) (q : ∀ p H', Same H H' → H' p = some (.tup ((lotS ns).map V.str)) → Q (.ref p) H') :
    rSet K P w [.ref a] H fun u H1 => rSorted2 P w [u] H1 fun z H2 => ∃ p ys, [z] = [V.ref p] ∧ ((SqL K H2 p ys ∧ ∀ l, H2 l = none → Q (.ref l) (upd H2 l (.tup ys))) ∨ (SqT K H2 p ys ∧ Q (.ref p) H2)) := by
  unfold rSet
  refine .inl ⟨a, ns, rfl, h, hl, fun b m hb nd ml mm => ?_⟩
  unfold rSorted2
  refine .inl ⟨b, m, rfl, upd_same, Nat.le_trans ml hl, fun ys p pm so hp => ⟨p, ys.map V.str, rfl, .inl ⟨SqL.of upd_same, fun l hn => ?_⟩⟩⟩
  have e : ys = lotS ns := lotS_eq (sorted_asc so (pm.nodup_iff.mpr nd)) fun x => pm.mem_iff.trans (mm x)
  rw [e] at hn ⊢
  have s1 : Same H (upd H b (SetT P w b m)) := fun c o e => by rw [upd_ne (ne_of_none e hb)]; exact e
  have s2 : Same (upd H b (SetT P w b m)) (upd (upd H b (SetT P w b m)) p (.lst ((lotS ns).map V.str))) := fun c o e => by rw [upd_ne (ne_of_none e hp)]; exact e
  have s3 : Same (upd (upd H b (SetT P w b m)) p (.lst ((lotS ns).map V.str))) (upd (upd (upd H b (SetT P w b m)) p (.lst ((lotS ns).map V.str))) l (.tup ((lotS ns).map V.str))) := fun c o e => by rw [upd_ne (ne_of_none e hn)]; exact e
  exact q l _ (fun c o e => s3 c o (s2 c o (s1 c o e))) upd_same
theorem rd_lotI {K : PySem.W.Frag} {P : Program} {w : World} {H : Hp} {a : Addr} {ns : List Int} {Q : VK} (h : SqX K H a (ns.map V.int)) (hl : ns.length < 64) (q : ∀ p H', Same H H' → H' p = some (.tup ((lotI ns).map V.int)) → Q (.ref p) H') :
    rSet K P w [.ref a] H fun u H1 => rSorted2 P w [u] H1 fun z H2 => ∃ p ys, [z] = [V.ref p] ∧ ((SqL K H2 p ys ∧ ∀ l, H2 l = none → Q (.ref l) (upd H2 l (.tup ys))) ∨ (SqT K H2 p ys ∧ Q (.ref p) H2)) := by
  unfold rSet
  refine .inr ⟨a, ns, rfl, h, Nat.le_trans (Nat.le_of_lt hl) (by decide), fun b c hb cl => ?_⟩
  unfold rSorted2
  refine .inr ⟨b, _, c, rfl, upd_same, Nat.lt_of_le_of_lt cl hl, fun ys p so mm _ hp => ⟨p, ys.map V.int, rfl, .inl ⟨SqL.of upd_same, fun l hn => ?_⟩⟩⟩
  have e : ys = lotI ns := lotI_eq so fun x => (mm x).trans decide_eq_true_iff
  rw [e] at hn ⊢
  have s1 : Same H (upd H b (SetO w b (fun j => decide (j ∈ ns)) c)) := fun d o e => by rw [upd_ne (ne_of_none e hb)]; exact e
  refine q l _ (fun d o e => ?_) upd_same
  have e1 := s1 d o e
  rw [upd_ne (ne_of_none (by rw [upd_ne (ne_of_none e1 hp)]; exact e1) hn), upd_ne (ne_of_none e1 hp)]
  exact e1
end St

/-! own classes of the text: made, their methods, their == -/
namespace Ow
open PySem PySem.Spec PyProof.Rows L2 Hb
/-- a class of the text, made by its __init__'s promise -/
structure Cm (P : Program) (w : World) (K : PySem.W.Frag) (mg : Str → Option Value) (base : Heap) (x : Str) (C : Addr) (ps : List Str) (lv : Nat) (sp : Sp) : Prop where
  ex : ∃ (f : Addr) (fd : FuncData), Mk K C f ∧ FnOk P w K mg base CX0 lv f fd ps sp ∧ mg x = some (.ref C) ∧ Binds K fd ps []
/-- a class made by keywords alone: its parameters behind self in the order of gV -/
structure CmK (P : Program) (w : World) (K : PySem.W.Frag) (mg : Str → Option Value) (base : Heap) (x : Str) (C : Addr) (ps ks : List Str) (gV : List V → List V → List V) (lv : Nat) (sp : Sp) : Prop where
  ex : ∃ (f : Addr) (fd : FuncData) (g : List Value → List Value → List Value), Mk K C f ∧ FnOk P w K mg base CX0 lv f fd ps sp ∧ mg x = some (.ref C) ∧ KBn K fd ps 1 ks g gV
/-- a method of an own class -/
structure Ch (P : Program) (w : World) (K : PySem.W.Frag) (mg : Str → Option Value) (base : Heap) (C : Addr) (m : Str) (ps : List Str) (dvs : List V) (lv : Nat) (sp : Sp) : Prop where
  ex : ∃ (f : Addr) (fd : FuncData) (ds : List Value), Meth K C m f ∧ FnOk P w K mg base CX0 lv f fd ps sp ∧ Binds K fd ps ds ∧ Vals dvs ds
structure ChK (P : Program) (w : World) (K : PySem.W.Frag) (mg : Str → Option Value) (base : Heap) (C : Addr) (m : Str) (ps ks : List Str) (gV : List V → List V → List V) (lv : Nat) (sp : Sp) : Prop where
  ex : ∃ (f : Addr) (fd : FuncData) (g : List Value → List Value → List Value), Meth K C m f ∧ FnOk P w K mg base CX0 lv f fd ps sp ∧ KBn K fd ps 1 ks g gV
section
variable {X : Cx} {C : Addr} {ps ks : List Str} {gV : List V → List V → List V} {dvs : List V} {lv : Nat} {sp : Sp} {x m : Str} {p pos apos : Pos} {e o : Expr} {es : List Expr} {kws : List Keyword} {t tk : TA} {ta : TE}
theorem pe_new (M : Cm X.prog X.w X.K X.mg X.base x C ps lv sp) (hr : Room (lv + 1) X.A) (hg : Gl X x) (ha : PA X (e :: es) t) (hdb : (x == ("__debug__" : Str)) = false := by decide)
    (he : starEach (e :: es) X.env = (false, eval e X.env) :: starEach es X.env := by rfl) (hpl : (backTo pos (starEach es X.env)).any (·.1) = false := by rfl) : PE X (.Call (.Name x p) (e :: es) [] pos) (tMake C sp [] E0 t) := by
  obtain ⟨f, fd, mk, F, hm, hb⟩ := M.ex
  exact pe_make mk F hr hg hm hb .nil pass0 ha hdb he hpl
theorem pe_newK (M : CmK X.prog X.w X.K X.mg X.base x C ps ks gV lv sp) (hr : Room (lv + 1) X.A) (hg : Gl X x) (hkw : PK X kws tk)
    (hall : (backToKw pos (keywordEach kws X.env)).all (·.1.isSome) = true := by rfl) (hks : (backToKw pos (keywordEach kws X.env)).filterMap (·.1) = ks := by rfl) (hdb : (x == ("__debug__" : Str)) = false := by decide)
    (hpl : ((backTo pos (starEach [] X.env)).any (·.1) || (backToKw pos (keywordEach kws X.env)).any (·.1.isNone)) = false := by rfl) : PE X (.Call (.Name x p) [] kws pos) (tMakeK C 0 ks.length sp gV E0 tNil tk) := by
  obtain ⟨f, fd, g, mk, F, hm, hb⟩ := M.ex
  exact pe_makeK0 mk F hr hg hm hb pass0 hkw hall hks hdb hpl
theorem pe_do {pl : Sem Bool} (M : Ch X.prog X.w X.K X.mg X.base C m ps dvs lv sp) (c : Cls X.K C) (hr : Room lv X.A) (ho : PE X o ta) (ha : PA X (e :: es) t)
    (hst : starEach (e :: es) X.env = (false, eval e X.env) :: starEach es X.env := by rfl) (hpl : (backTo pos (starEach es X.env)).any (·.1) = false := by rfl)
    (ht : eval (.Call (.Attribute o m apos) (e :: es) [] pos) X.env = (do
      let v ← eval o X.env
      standAt apos.atName
      let (f, first) ← holding [v] (getMethod v m pl)
      callWith pos f first (backTo pos (starEach (e :: es) X.env)) (backToKw pos (keywordEach [] X.env))) := by rfl) : PE X (.Call (.Attribute o m apos) (e :: es) [] pos) (tMeth C m sp dvs E0 ta t) := by
  obtain ⟨f, fd, ds, hm, F, hb, hd⟩ := M.ex
  exact pe_meth ho c hm F hr hb hd pass0 ha hst hpl ht
theorem pe_do0 {pl : Sem Bool} (M : Ch X.prog X.w X.K X.mg X.base C m ps dvs lv sp) (c : Cls X.K C) (hr : Room lv X.A) (ho : PE X o ta)
    (ht : eval (.Call (.Attribute o m apos) [] [] pos) X.env = (do
      let v ← eval o X.env
      standAt apos.atName
      let (f, first) ← holding [v] (getMethod v m pl)
      callWith pos f first (backTo pos (starEach [] X.env)) (backToKw pos (keywordEach [] X.env))) := by rfl) : PE X (.Call (.Attribute o m apos) [] [] pos) (tMeth C m sp dvs E0 ta tNil) := by
  obtain ⟨f, fd, ds, hm, F, hb, hd⟩ := M.ex
  exact pe_meth0 ho c hm F hr hb hd pass0 ht
/-- o.m(k = v, ..) -/
def tMethK (C : Addr) (m : Str) (n : Nat) (sp : Sp) (gV : List V → List V → List V) (ta : TE) (tk : TA) : TE := fun σ H Q => ta σ H fun x H1 => ∃ a dx fs, x = .ref a ∧ H1 a = some (.ins C dx fs) ∧ fs.lookup m = none ∧ tk σ H1 fun zs H2 => zs.length = n ∧ sp (gV [x] zs) H2 Q E0
theorem pe_doK {pl : Sem Bool} (M : ChK X.prog X.w X.K X.mg X.base C m ps ks gV lv sp) (c : Cls X.K C) (hr : Room lv X.A) (ho : PE X o ta) (hkw : PK X kws tk)
    (hall : (backToKw pos (keywordEach kws X.env)).all (·.1.isSome) = true := by rfl) (hks : (backToKw pos (keywordEach kws X.env)).filterMap (·.1) = ks := by rfl)
    (hpl : ((backTo pos (starEach [] X.env)).any (·.1) || (backToKw pos (keywordEach kws X.env)).any (·.1.isNone)) = false := by rfl)
    (ht : eval (.Call (.Attribute o m apos) [] kws pos) X.env = (do
      let v ← eval o X.env
      standAt apos.atName
      let (f, first) ← holding [v] (getMethod v m pl)
      callWith pos f first (backTo pos (starEach [] X.env)) (backToKw pos (keywordEach kws X.env))) := by rfl) : PE X (.Call (.Attribute o m apos) [] kws pos) (tMethK C m ks.length sp gV ta tk) := by
  obtain ⟨f, fd, g, hm, F, hb⟩ := M.ex
  refine ⟨fun pins s σ H Q I h => ?_⟩
  refine PySem.W.methodCall_KW (pl := pl) (thn (ho.run pins s σ H _ I h) fun u s1 ⟨x, H1, I1, rx, a, dx, fs, ex, ea, l, q⟩ => ?_) ht
  subst ex; obtain rfl : u = Value.ref a := rx
  refine getmeth_ok I1 ea c hm l ?_
  refine PySem.W.callWith_KW0 (first := [.ref a]) (h₀ := X.base) I1.ok.mod.kin hm.kp hall (thn (hkw.run pos pins s1 σ H1 _ I1 q) fun ws s2 ⟨zs, H2, I2, rz, l1, q2⟩ => ⟨I2.kIn, ?_⟩) hpl
  rw [hks]
  exact run_fnN (us := [.ref a]) (vs := [.ref a]) F hr hb pass0 I2 (.cons rfl .nil) rz rfl l1 q2
end
/-! ### == by an own __eq__, whatever it answers -/
def rEqOwn (C : Addr) (sp : Sp) : R2 := fun x y H Q => ∃ a dx fs b, x = .ref a ∧ y = .ref b ∧ H a = some (.ins C dx fs) ∧ ((∃ dy gs, H b = some (.ins C dy gs)) ∨ ∃ xs, H b = some (.lst xs)) ∧ sp [x, y] H (fun v H' => (∃ k, v = .bl k) ∧ Q v H') E0
theorem op_eqOwn {X : Cx} {C : Addr} {ps : List Str} {lv : Nat} {sp : Sp} (M : Ch X.prog X.w X.K X.mg X.base C "__eq__" ps [] lv sp) (kl : PySem.W.subIn X.K (.type "list") (.ref C) = some false) (hr : Room lv X.A) : OpR X (compareOp .Eq) (rEqOwn C sp) := by
  obtain ⟨f, fd, ds, hm, F, hb, hd⟩ := M.ex
  cases hd
  intro pins s σ H x y v u Q I rx ry h
  obtain ⟨a, dx, fs, b, rfl, rfl, ha, hy, q⟩ := h
  cases rx; cases ry
  obtain ⟨mA, J, _⟩ := ins_get I.hok ha
  obtain ⟨od, J, _⟩ := J.look
  obtain ⟨m, hF⟩ := I.fr
  have run : wpAny (model X.prog X.w) X.A (call (.ref f) [.ref a, .ref b]) (PySem.W.CmpBack (EP X pins σ Q)) X.xe s := by
    have hl := F.len _ _ _ _ q
    have bb := hb s [.ref a, .ref b] I.kIn (by simpa using hl)
    refine wpAny_call (codeAny_mono (F.run X.A X.stack s H ⟨[.ref a, .ref b], []⟩ [.ref a, .ref b] [.ref a, .ref b] _ E0 hr I.env0 (by simpa using bb) (.cons rfl (.cons rfl .nil)) q) fun r s' z => ?_)
    rcases r with e | (_ | _ | _ | w)
    · exact pass0 pins σ H s e s' I z
    · exact False.elim z
    · exact False.elim z
    · exact False.elim z
    · obtain ⟨v, H', I', rv, ⟨k, rfl⟩, q'⟩ := I.after z
      obtain rfl : w = Value.bool k := rv
      exact ⟨.bl k, H', I', rfl, q'⟩
  show wpAny (model X.prog X.w) X.A (richCompare .Eq (.ref a) (.ref b)) (EP X pins σ Q) X.xe s
  rcases hy with ⟨dy, gs, hy⟩ | ⟨xs, hy⟩
  · obtain ⟨mB, J', _⟩ := ins_get I.hok hy
    obtain ⟨od', J', _⟩ := J'.look
    exact PySem.W.cmp_K (op := .Eq) (tb := .ref C) hr.units0 hF I.ok.mod.kin J J'.type (by simp [PySem.W.notFirst]) hm.at_ hm.fn run
  · obtain ⟨z, its, n, r, e⟩ := I.hok b _ hy
    exact PySem.W.cmp_K (op := .Eq) (tb := .type "list") hr.units0 hF I.ok.mod.kin J (fun A Q E s' k q => wpAny_typeOf (T := "list") ⟨_, k _ _ e, rfl⟩ q) (by simp [PySem.W.notFirst, kl]) hm.at_ hm.fn run
/-! ### xs[::n], n reckoned as -1 -/
theorem pe_rev {X : Cx} {e st : Expr} {te ts : TE} {p3 pos : Pos} (he : PE X e te) (hs : PE X st ts) (hN : ∀ σ H (Q : VK), Q (.int (-1)) H → ts σ H Q) :
    PE X (.Subscript e (.Slice none none (some st) p3) pos) (fun σ H Q => te σ H fun x H1 => ∃ a xs, x = .ref a ∧ SqL X.K H1 a xs ∧ ∀ p, H1 p = none → Q (.ref p) (upd H1 p (.lst xs.reverse))) := by
  refine ⟨fun pins s σ H Q I h => Subscript_ (thn (he.run pins s σ H _ I h) fun v s1 ⟨x, H1, I1, r1, a, xs, ex, hx, q⟩ => ?_)⟩
  subst ex; cases r1
  refine wpAny_Slice (thn (po_none.run pins s1 σ H1 (fun o H2 => o = none ∧ H2 = H1) I1 ⟨rfl, rfl⟩) fun vl s2 ⟨l, H2, I2, pl, el, e2⟩ => ?_)
  subst el e2
  refine thn (po_none.run pins s2 σ H2 (fun o H3 => o = none ∧ H3 = H2) I2 ⟨rfl, rfl⟩) fun vu s3 ⟨u, H3, I3, pu, eu, e3⟩ => ?_
  subst eu e3
  refine thn ((po_some hs).run pins s3 σ H3 (fun o H4 => o = some (-1) ∧ H4 = H3) I3 (hN σ H3 _ ⟨-1, rfl, rfl, rfl⟩)) fun vs s4 ⟨o, H4, I4, ps, eo, e4⟩ => ?_
  subst eo e4
  have I5 : Inv X pins σ H4 { s4 with heap := s4.heap.push { cls := .type "slice", data := .fields #[vl, vu, vs] } } := I4.kept (t' := s4.toks) fun b ob q => Heap.get?_push_of_some _ q
  obtain ⟨its, r, ht, hz⟩ := I5.list hx
  have hlen := r.length
  show wpAny (model X.prog X.w) X.A (subscriptTail e (.Slice none none (some st) p3) (.ref a) (.ref s4.heap.objs.size)) (EP X pins σ Q) X.xe { s4 with heap := s4.heap.push { cls := .type "slice", data := .fields #[vl, vu, vs] } }
  refine tail_any (ops := [.ref a, .ref s4.heap.objs.size]) ht.isList.typeIs (PySem.slot_list_getitem.lookup) ?_ (by with_unfolding_all rfl)
  refine wpAny_getItem_list_slice ht.isList (Heap.IsSliceOf.new _ vl vu vs) pl pu ps (by decide) ?_ (by rw [List.size_toArray]; omega)
  rw [PySem.W.krv_pick]
  exact ⟨.ref _, _, I5.laid (t' := s4.toks) (o := .lst xs.reverse) (fun b ob q => Heap.get?_push_of_some _ q) (Nat.le_refl _) ⟨by rw [List.length_reverse]; exact hz, _, 0, r.reverse, Heap.get?_push_size _ rfl⟩, rfl, q _ (I5.hok.fresh (Nat.le_refl _))⟩
/-- o.f within a comprehension -/
theorem pe_fldK {X : Cx} {e : Expr} {f : Str} {pos : Pos} {ta : TE} (K : PySem.W.Frag) (he : PE X e ta) (hb : attributeBase e f X.env (eval e X.env) = eval e X.env) (hK : X.K = K := by rfl) : PE X (.Attribute e f pos) (tFld K ta f) := by
  subst hK
  exact pe_fld he hb
end Ow

namespace Ow
open PySem PySem.Spec PyProof.Rows L2 Hb
/-- {k: v}, k a tuple of ints and texts -/
def tDisp1 (tk tv : TE) : TE := fun σ H Q => ∀ p, H p = none → tk σ (upd H p (.dT [])) fun x H1 => tv σ H1 fun y H2 => H2 p = some (.dT []) ∧ ∃ (k : List Key) (b : Addr), x = .ref b ∧ H2 b = some (.tup (k.map kV)) ∧ Q (.ref p) (upd H2 p (.dT [(k, y)]))
theorem pe_disp1T {X : Cx} {k v : Expr} {tk tv : TE} {pos : Pos} (hu : X.A.units + 1 < cLine) (hk : PE X k tk) (hv : PE X v tv) : PE X (.Dict [some k] [v] pos) (tDisp1 tk tv) := by
  refine ⟨fun pins s σ H Q I q => ?_⟩
  have hn := I.hok.fresh (Nat.le_refl s.heap.objs.size)
  have I1 := I.laid (a := s.heap.objs.size) (o := .dT []) (h' := s.heap.push { cls := .type "dict", data := .dict #[] }) (t' := s.toks) (fun _ _ q => Heap.get?_push_of_some _ q) (Nat.le_refl _) (dt_empty s.heap I.big)
  have pr := pairTrees_length [some k] [v] X.env pos rfl rfl
  rw [arm_eval_Dict, zip_pairTrees [some k] [v] X.env pos rfl rfl, dictDisplay_pairs _ (fun z => by rw [z] at pr; cases pr) (by rw [pr]; exact (by decide : (1 : Nat) < 17))]
  refine wpAny_bind (wpAny_standAt (wpAny_bind (wpAny_subDictH (knd := tupleKind (mixKind X.prog X.w)) (Q := fun d s' => wpAny (model X.prog X.w) X.A (pure (Value.ref d)) (EP X pins σ Q) X.xe s') (show X.A.units < cLine by omega) (by rw [pr]; exact (by decide : (1 : Nat) ≤ 15)) ?_)))
  refine thn ((pps_cons hk hv pps_nil).run pins _ σ _ (fun ps H2 => match ps with | [(x, y)] => H2 s.heap.objs.size = some (.dT []) ∧ ∃ (k : List Key) (b : Addr), x = .ref b ∧ H2 b = some (.tup (k.map kV)) ∧ Q (.ref s.heap.objs.size) (upd H2 s.heap.objs.size (.dT [(k, y)])) | _ => False) I1 (q _ hn)) fun ws s2 ⟨ps, H2, I2, rel, q1⟩ => ?_
  match ps, q1 with
  | [(x, y)], q1 => ?_
  obtain ⟨e, kk, b, ex, eb, q2⟩ := q1
  subst ex
  cases rel with
  | @cons _ bb _ _ h t =>
    obtain ⟨b1, b2⟩ := bb
    cases t
    obtain ⟨r1, r2⟩ := h
    cases (show b1 = Value.ref b from r1)
    obtain ⟨z, hd, xs, rel, dd⟩ := dt_of I2.hok e
    cases rel
    refine ⟨[(kk, b, b2)], ⟨rfl, rfl, key_of I2.hok eb, trivial⟩, dd, fun h' tk' dd' hs => wpAny_pure ⟨.ref s.heap.objs.size, _, ?_, rfl, q2⟩⟩
    obtain ⟨qo, es, ep, hq, h2, h3, h4, _, h5⟩ := dd'
    refine d_write I2 (by rw [e]; exact True.intro) hs ⟨qo, hq⟩ ⟨by show 1 ≤ sizeLine; decide, hd, [(kk, b, b2)], .cons ⟨rfl, ?_, r2⟩ .nil, qo, es, ep, hq, h2, h3, h4, h5⟩
    rw [upd_ne (ne_of eb e (fun z => nomatch z))]
    exact eb
end Ow

/-! enumerate of a tuple -/
namespace En
open PySem PySem.Spec PyProof.Rows L2
set_option maxHeartbeats 1000000 in
theorem new_one {v : Value} {it : Obj} {Z : Heap → Prop} (B : Begins v it Z) : Meets (Builtin.«enumerate.__new__» ⟨[.type "enumerate", v], []⟩) (fun _ R z => Z z.heap ∧
    R (.ok (.ret (.ref (z.heap.push it).objs.size))) { z with heap := (z.heap.push it).push { cls := .type "enumerate", data := .fields #[.none, .bool false, .ref z.heap.objs.size, rawInt 0, .none, .none] } }) :=
  .of_wp fun prog w A R z hz => by
    obtain ⟨hp, gs, dr, nt, oss⟩ := z
    obtain ⟨hZ, hR⟩ := hz
    have isub := sub_enumerate
    have begun : ∀ {A' : Around} {E : Value → Shared → Prop} {Q : Value → Shared → Prop}, Q (.ref hp.objs.size) ⟨hp.push it, gs, dr, nt, oss⟩ → wpAny (model prog w) A' (pyIter v) Q E ⟨hp, gs, dr, nt, oss⟩ :=
      fun qq => B.iter prog w _ _ ⟨hp, gs, dr, nt, oss⟩ _ hZ qq
    wp_walk using begun
    refine wpAny_stack_any fun _ => wpAny_pure ?_
    split
    · rename_i cl _ _ _ _ _
      cases (cl == Value.type "enumerate") <;> (wp_walk using begun; exact ⟨_, rfl, hR⟩)
    · wp_walk using begun
      exact ⟨_, rfl, hR⟩
section
variable {prog : Program} {w : World} {A : Around} {E : Value → Shared → Prop} {s : Shared}
theorem call_one {v : Value} {it : Obj} {Z : Heap → Prop} {Q : Value → Shared → Prop} (B : Begins v it Z) (hZ : Z s.heap)
    (fin : ∀ h', IsEnum h' (s.heap.objs.size + 1) s.heap.objs.size 0 .none → h'.get? s.heap.objs.size = some it → (∀ b o, s.heap.get? b = some o → h'.get? b = some o) → Q (.ref (s.heap.objs.size + 1)) { s with heap := h' }) :
    wpAny (model prog w) A (call (.type "enumerate") [v]) Q E s := by
  refine callType_new F.called_enumerate (by decide) (F.typeCall_enumerate_1 v) (F.newCall_enumerate_1 v) (fun self => F.args_object_init_2 self v) F.entry_enumerate_new (new_one B) ⟨hZ, ?_⟩
  have size1 : (s.heap.push it).objs.size = s.heap.objs.size + 1 := Heap.size_push ..
  show _ ∧ _
  rw [size1]
  have at1 : IsEnum ((s.heap.push it).push { cls := .type "enumerate", data := .fields #[.none, .bool false, .ref s.heap.objs.size, rawInt 0, .none, .none] }) (s.heap.objs.size + 1) s.heap.objs.size 0 .none := by
    have z := Heap.get?_push_size (s.heap.push it) (o := { cls := .type "enumerate", data := .fields #[.none, .bool false, .ref s.heap.objs.size, rawInt 0, .none, .none] }) rfl
    rw [size1] at z
    exact z
  exact ⟨⟨_, at1, rfl⟩, fin _ at1 (Heap.get?_push_of_some _ (Heap.get?_push_size _ B.free)) fun b o y => Heap.get?_push_of_some _ (Heap.get?_push_of_some _ y)⟩
end
def IteT (K : PySem.W.Frag) (a : Addr) : It where
  go i H := ∃ (xs : List V) (x : V), SqT K H a xs ∧ xs[i]? = some x
  yld i H v H' := ∃ T x, v = .ref T ∧ H T = none ∧ H' = upd H T (.tup [.int (i : Nat), x]) ∧ ∀ xs, SqT K H a xs → xs[i]? = some x
  stop i H := ∃ xs : List V, SqT K H a xs ∧ xs.length ≤ i
theorem tup_ne {h : Heap} {a it : Addr} {k : Nat} {items : Array Value} (h1 : h.IsTuple a items) (h2 : h.IsTupleIter it a k) : a ≠ it := by
  intro e
  obtain ⟨o, ho, hc, _⟩ := h1
  obtain ⟨o2, ho2, hc2, _⟩ := h2
  rw [← e, ho] at ho2
  cases ho2
  exact absurd (Value.type.inj (hc.symm.trans hc2)) (by decide)
theorem turn_enumT {P : Program} {w : World} {K : PySem.W.Frag} {elts : List Expr} {kk : Nat} {tpos : Pos} (a e it : Addr) :
    Turn P w K (.Tuple elts kk tpos) (IteT K a) [e, it] e (fun i h => (∃ old, IsEnum h e it ((i : Nat) : Int) old) ∧ h.IsTupleIter it a i ∧ e ≠ it) where
  mem := by simp
  obj i h st b hb := by
    obtain ⟨⟨old, hen⟩, ⟨o, ho, _, hd⟩, _⟩ := st
    rcases (show b = e ∨ b = it by simpa using hb) with z | z
    · exact ⟨_, by rw [z]; exact hen, fun v q => by cases (show Data.fields _ = Data.cell v from q)⟩
    · exact ⟨o, by rw [z]; exact ho, fun v q => by rw [hd] at q; cases q⟩
  keep i h h' st k := by
    obtain ⟨⟨old, hen⟩, hti, ne⟩ := st
    exact ⟨⟨old, k e (by simp) _ hen⟩, hti.at fun o q => k it (by simp) o q, ne⟩
  item := by
    intro X hP hw hK hc i pins s σ H E I hf st hg
    subst hP hw hK
    obtain ⟨⟨old, hen⟩, hti, ne⟩ := st
    obtain ⟨xs, x, hq, hx⟩ := hg
    obtain ⟨its, rel, pt, _⟩ := I.tuple hq
    obtain ⟨u, hu, ru⟩ := rel.get hx
    have lt1 : e < s.heap.objs.size := Heap.lt_size hen
    have lt2 : it < s.heap.objs.size := by obtain ⟨_, y, _⟩ := hti; exact Heap.lt_size y
    have ane := tup_ne pt hti
    have elt : ∀ b ∈ [e, it], b < s.heap.objs.size := fun b hb => by
      rcases (show b = e ∨ b = it by simpa using hb) with z | z <;> rw [z] <;> assumption
    have ena : e ≠ a := fun z => by
      obtain ⟨o, ho, hcl, _⟩ := pt
      have q : s.heap.get? e = _ := hen
      rw [z, ho] at q
      cases q
      exact absurd (Value.type.inj hcl) (by decide)
    have hh : X.A.in1.handled = none := I.ok.hd hc
    refine wpAny_pyNext_enum_itemD (Draws.tuple hh it a ane its.toArray) hen ⟨hti, pt⟩ (show i < its.toArray.size by rw [List.size_toArray]; exact (List.getElem?_eq_some_iff.mp hu).1) ne (by simp [ne, ena]) fun y h' tk hy out st' hT hsz hk => ?_
    have hyu : y = u := by
      have : its[i]? = some y := by simpa using hy
      rw [hu] at this
      exact (Option.some.inj this).symm
    subst hyu
    refine ⟨_, rfl, wpAny_letOwnedTupleGo_enum (s := { s with heap := h', toks := tk + 1 }) out fun h2 hen2 sb => ?_⟩
    have t2 : h2.get? s.heap.objs.size = some { cls := .type "tuple", data := .seq #[.int i tk, y] } := (sb.2 _ (Nat.ne_of_gt lt1)).trans hT
    have newT : ObjOk X.prog X.w (upd H s.heap.objs.size (.tup [.int (i : Nat), x])) h2 s.heap.objs.size (.tup [.int (i : Nat), x]) :=
      ⟨by show 2 ≤ sizeLine; decide, [.int i tk, y], .cons ⟨_, rfl⟩ (.cons ru .nil), ⟨_, t2, rfl, _, rfl⟩⟩
    have J : Inv X pins σ (upd H s.heap.objs.size (.tup [.int (i : Nat), x])) { s with heap := h2, toks := tk + 1 } :=
      I.turnedNew (t' := tk + 1) (ch := [e, it]) (fun b ob hb q => (sb.2 b (fun z => hb (by simp [z]))).trans (hk b ob (fun z => hb (by simp [z])) (fun z => hb (by simp [z])) q)) hf (Nat.le_refl _) newT
    refine ⟨.ref s.heap.objs.size, _, J, rfl, ⟨_, x, rfl, I.hok.fresh (Nat.le_refl _), rfl, fun ys hys => by rw [I.tuple_inj hys hq]; exact hx⟩, ⟨⟨y, ?_⟩, st'.1.at fun o q => (sb.2 it (Ne.symm ne)).trans q, ne⟩, fun b hb => ?_⟩
    · rw [show ((i + 1 : Nat) : Int) = (i : Int) + 1 by omega]
      exact hen2
    · rw [upd_ne (Nat.ne_of_lt (elt b hb))]
      exact (hf b hb).1
  done := by
    intro X hP hw hK hc i pins s σ H E I hf st hg
    subst hP hw hK
    obtain ⟨⟨old, hen⟩, hti, ne⟩ := st
    obtain ⟨xs, hq, hx⟩ := hg
    obtain ⟨its, rel, pt, _⟩ := I.tuple hq
    obtain ⟨g0, g1, g2, g3, g4, g5⟩ := hf it (by simp)
    have hl := rel.length
    have hh : X.A.in1.handled = none := I.ok.hd hc
    have T : Draws X.prog X.w X.A.in1 it [it, a] i (fun i v => its.toArray[i]? = some v) (fun k h => k = i ∧ h.IsTupleIter it a i ∧ h.IsTuple a its.toArray) := {
      live := fun _ _ sj => let ⟨o, ho, _⟩ := sj.2.1; ⟨o, ho⟩
      frame := fun _ _ _ sj k => ⟨sj.1, sj.2.1.at fun o q => k it (by simp) o q, sj.2.2.at fun o q => k a (by simp) o q⟩
      item := fun j z Q' E' hj sj hQ => absurd sj.1 (Nat.ne_of_lt hj)
      done := fun z Q' E' sj hE => wpAny_nextOf_tuple_end hh sj.2.1 sj.2.2 (by simp; omega) hE }
    exact wpAny_pyNext_enum_endD T hen ⟨rfl, hti, pt⟩ fun h' eb => ⟨rfl, I.turned (t' := s.toks) (fun b o hb q => eb b o hb q) g0 g1 g3 g4 g5⟩
  self A i s Q E st h := by
    obtain ⟨⟨_, hen⟩, _⟩ := st
    exact wpAny_pyIter_enum hen h
def iEnumT (K : PySem.W.Frag) (ta : TA) : TI := fun σ H R => ta σ H fun vs H1 => ∃ a, vs = [.ref a] ∧ (∃ xs, SqT K H1 a xs) ∧ R (IteT K a) H1
theorem pi_enumT {X : Cx} {e : Expr} {ta : TA} {p pos tpos : Pos} {elts : List Expr} {kk : Nat} (hg : Gl X "enumerate") (hm : X.mg "enumerate" = none) (ha : PA X [e] ta) (hs : starEach [e] X.env = [(false, eval e X.env)] := by rfl) :
    PI X (.Tuple elts kk tpos) (.Call (.Name "enumerate" p) [e] [] pos) (iEnumT X.K ta) := by
  refine ⟨fun pins s σ H R I h => Call_ (ld_blt I hg hm boot_enumerate (PyProof.Rows.callWith_type1 (thn (ha.run pos pins s σ H _ I h) fun us s1 gone => ?_) hs rfl))⟩
  obtain ⟨vs, H1, I1, rel, a, rfl, ⟨xs, hq⟩, qq⟩ := gone
  match us, rel with
  | [_], .cons r .nil =>
    cases r
    obtain ⟨its, _, pt, _⟩ := I1.tuple hq
    refine call_one (begins_tuple a its.toArray) pt fun h' hen hit hk => wpAny_pyIter_enum hen ?_
    have J : Inv X pins σ H1 { s1 with heap := h' } := I1.kept (t' := s1.toks) hk
    refine ⟨s1.heap.objs.size + 1, [s1.heap.objs.size + 1, s1.heap.objs.size], _, _, H1, rfl, J, turn_enumT a (s1.heap.objs.size + 1) s1.heap.objs.size, ⟨⟨.none, hen⟩, ⟨_, hit, rfl, rfl⟩, Nat.succ_ne_self _⟩, fun b hb => ?_, qq⟩
    have le : s1.heap.objs.size ≤ b := by
      rcases (show b = s1.heap.objs.size + 1 ∨ b = s1.heap.objs.size by simpa using hb) with z | z
      · rw [z]; exact Nat.le_succ _
      · rw [z]; exact Nat.le_refl _
    exact I1.fpOk le (I1.hok.fresh le)
/-- for i, x in enumerate(t) -/
theorem for_enumT {K : PySem.W.Frag} {a : Addr} {xs : List V} {g : TG} {tb : TS} {D : Ends} {σ : L2.St} {H : Hp} (Pv : Nat → L2.St → Hp → Prop) (h0 : Pv 0 σ H) (hl : ∀ i σ H, Pv i σ H → SqT K H a xs)
    (hs : ∀ (i : Nat) (x : V) (T : Addr) (σ : L2.St) (H : Hp), xs[i]? = some x → Pv i σ H → H T = none → g (.ref T) σ (upd H T (.tup [.int (i : Nat), x])) fun σ2 H2 => tb { D with nx := Pv (i + 1), ct := Pv (i + 1), bk := D.nx } σ2 H2)
    (hd : ∀ σ H, Pv xs.length σ H → D.nx σ H) :
    ∃ W : Nat → Nat → L2.St → Hp → Prop, (∃ m, W 0 m σ H) ∧ ∀ i m σ H, W i m σ H →
      ((IteT K a).stop i H ∧ D.nx σ H) ∨ ((IteT K a).go i H ∧ ∃ N : L2.St → Hp → Prop, (∀ σ' H', N σ' H' → ∃ m', m' < m ∧ W (i + 1) m' σ' H') ∧ ∀ v H', (IteT K a).yld i H v H' → g v σ H' fun σ2 H2 => tb { D with nx := N, ct := N, bk := D.nx } σ2 H2) := by
  refine ⟨fun i m σ H => m + i = xs.length ∧ Pv i σ H, ⟨xs.length, rfl, h0⟩, fun i m σ H ⟨e, p⟩ => ?_⟩
  have q := hl i σ H p
  cases m with
  | zero => exact .inl ⟨⟨xs, q, by omega⟩, hd σ H (by rw [show xs.length = i by omega]; exact p)⟩
  | succ m =>
    have hlt : i < xs.length := by omega
    refine .inr ⟨⟨xs, xs[i], q, List.getElem?_eq_getElem hlt⟩, Pv (i + 1), fun σ' H' p' => ⟨m, Nat.lt_succ_self m, by omega, p'⟩, fun v H' y => ?_⟩
    obtain ⟨T, x, rfl, hT, rfl, hx⟩ := y
    exact hs i x T σ H (hx xs q) p hT
end En

/-! walks over a list or a tuple alike; comprehensions that keep some items and turn them -/
namespace Sq
open PySem PySem.Spec PyProof.Rows L2 Hb St
/-- what a program changes in place -/
def Mut (o : HO) : Prop := (∃ ys, o = .lst ys) ∨ ∃ k, o = .dT k
/-- all but the lists and dicts is as it was -/
def Fix (H H' : Hp) : Prop := ∀ b o, H b = some o → ¬ Mut o → H' b = some o
theorem Fix.of {H H' : Hp} (s : Same H H') : Fix H H' := fun b o e _ => s b o e
theorem Fix.refl (H : Hp) : Fix H H := fun _ _ e _ => e
theorem Fix.trans {H H1 H2 : Hp} (a : Fix H H1) (b : Fix H1 H2) : Fix H H2 := fun c o e n => b c o (a c o e n) n
theorem Fix.lst {H : Hp} {p : Addr} {xs : List V} {o : HO} (e : H p = some (.lst xs)) : Fix H (upd H p o) := fun b u eb n => by
  rw [upd_ne fun z => n (.inl ⟨xs, by rw [z, e] at eb; exact (Option.some.inj eb).symm⟩)]; exact eb
theorem Fix.dT {H : Hp} {p : Addr} {k : List (List Key × V)} {o : HO} (e : H p = some (.dT k)) : Fix H (upd H p o) := fun b u eb n => by
  rw [upd_ne fun z => n (.inr ⟨k, by rw [z, e] at eb; exact (Option.some.inj eb).symm⟩)]; exact eb
theorem Fix.new {H : Hp} {p : Addr} {o : HO} (e : H p = none) : Fix H (upd H p o) := Fix.of (same_new e o)
theorem Fix.kept {H H' : Hp} {p : Addr} {xs : List V} (e : H p = some (.lst xs)) (k : Kept p H H') : Fix H H' := fun b o eb n => k b o eb fun z => n (.inl ⟨xs, by rw [z, e] at eb; exact (Option.some.inj eb).symm⟩)
theorem tupFix {K : PySem.W.Frag} {H H' : Hp} {a : Addr} {xs : List V} (f : Fix H H') (h : SqT K H a xs) : SqT K H' a xs := by
  rcases h with (e | ⟨o, e⟩) | r
  · exact .inl (.inl (f _ _ e (by rintro (⟨_, z⟩ | ⟨_, z⟩) <;> cases z)))
  · exact .inl (.inr ⟨o, f _ _ e (by rintro (⟨_, z⟩ | ⟨_, z⟩) <;> cases z)⟩)
  · exact .inr r
theorem lstSame {K : PySem.W.Frag} {H H' : Hp} {a : Addr} {xs : List V} (f : Same H H') (h : SqL K H a xs) : SqL K H' a xs := by
  rcases h with (e | ⟨o, e⟩) | r
  · exact .inl (.inl (f _ _ e))
  · exact .inl (.inr ⟨o, f _ _ e⟩)
  · exact .inr r
theorem sqxSame {K : PySem.W.Frag} {H H' : Hp} {a : Addr} {xs : List V} (s : Same H H') (h : SqX K H a xs) : SqX K H' a xs := h.imp (lstSame s) (tupFix (Fix.of s))
theorem SqX.lst {K : PySem.W.Frag} {H : Hp} {a : Addr} {xs : List V} (e : H a = some (.lst xs)) : SqX K H a xs := .inl (SqL.of e)
theorem SqX.tup {K : PySem.W.Frag} {H : Hp} {a : Addr} {xs : List V} (e : H a = some (.tup xs)) : SqX K H a xs := .inr (SqT.of e)
/-- item by item -/
inductive All2 {α β : Type} (R : α → β → Prop) : List α → List β → Prop where
  | nil : All2 R [] []
  | cons {a b as bs} : R a b → All2 R as bs → All2 R (a :: as) (b :: bs)
namespace All2
variable {α β : Type} {R S : α → β → Prop}
theorem len : ∀ {as : List α} {bs : List β}, All2 R as bs → as.length = bs.length
  | _, _, .nil => rfl
  | _, _, .cons _ t => congrArg (· + 1) t.len
theorem imp (f : ∀ a b, R a b → S a b) : ∀ {as : List α} {bs : List β}, All2 R as bs → All2 S as bs
  | _, _, .nil => .nil
  | _, _, .cons h t => .cons (f _ _ h) (imp f t)
theorem app : ∀ {as as' : List α} {bs bs' : List β}, All2 R as bs → All2 R as' bs' → All2 R (as ++ as') (bs ++ bs')
  | _, _, _, _, .nil, h => h
  | _, _, _, _, .cons h t, k => .cons h (app t k)
theorem get : ∀ {as : List α} {bs : List β}, All2 R as bs → ∀ {i : Nat} {a : α}, as[i]? = some a → ∃ b, bs[i]? = some b ∧ R a b
  | _, _, .cons h t, 0, a, e => ⟨_, rfl, by cases e; exact h⟩
  | _, _, .cons h t, i + 1, a, e => t.get (i := i) e
theorem getR : ∀ {as : List α} {bs : List β}, All2 R as bs → ∀ {i : Nat} {b : β}, bs[i]? = some b → ∃ a, as[i]? = some a ∧ R a b
  | _, _, .cons h t, 0, a, e => ⟨_, rfl, by cases e; exact h⟩
  | _, _, .cons h t, i + 1, a, e => t.getR (i := i) e
theorem map_eq {f : β → α} (h : ∀ a b, R a b → a = f b) : ∀ {as : List α} {bs : List β}, All2 R as bs → as = bs.map f
  | _, _, .nil => rfl
  | _, _, .cons r t => by rw [List.map_cons, h _ _ r, map_eq h t]
theorem of_map {f : β → α} (h : ∀ b, R (f b) b) : ∀ bs : List β, All2 R (bs.map f) bs
  | [] => .nil
  | b :: bs => .cons (h b) (of_map h bs)
theorem drop : ∀ {as : List α} {bs : List β} (n : Nat), All2 R as bs → All2 R (as.drop n) (bs.drop n)
  | _, _, 0, h => h
  | _, _, n + 1, .nil => .nil
  | _, _, n + 1, .cons _ t => drop n t
theorem take : ∀ {as : List α} {bs : List β} (n : Nat), All2 R as bs → All2 R (as.take n) (bs.take n)
  | _, _, 0, h => .nil
  | _, _, n + 1, .nil => .nil
  | _, _, n + 1, .cons h t => .cons h (take n t)
end All2
/-- a walk J over the items xs of the object at a; S: it stands -/
structure Wk (J : It) (a : Addr) (S : Hp → Prop) (xs : List V) : Prop where
  go : ∀ i H, i < xs.length → S H → J.go i H
  stop : ∀ H, S H → J.stop xs.length H
  yld : ∀ i H v H', i < xs.length → S H → J.yld i H v H' → H' = H ∧ xs[i]? = some v
  keep : ∀ {H H' : Hp}, (∀ o, H a = some o → H' a = some o) → S H → S H'
theorem wk_list {K : PySem.W.Frag} {a : Addr} {xs : List V} : Wk (Itl K a) a (fun H => SqL K H a xs) xs where
  go := fun i H hi s => ⟨xs, xs[i], s, List.getElem?_eq_getElem hi⟩
  stop := fun H s => ⟨xs, s, Nat.le_refl _⟩
  yld := fun i H v H' _ s y => ⟨y.1, y.2 xs s⟩
  keep := fun k s => by
    rcases s with (e | ⟨o, e⟩) | r
    · exact .inl (.inl (k _ e))
    · exact .inl (.inr ⟨o, k _ e⟩)
    · exact .inr r
theorem wk_tup {K : PySem.W.Frag} {a : Addr} {xs : List V} : Wk (Itt K a) a (fun H => SqT K H a xs) xs where
  go := fun i H hi s => ⟨xs, xs[i], s, List.getElem?_eq_getElem hi⟩
  stop := fun H s => ⟨xs, s, Nat.le_refl _⟩
  yld := fun i H v H' _ s y => ⟨y.1, y.2 xs s⟩
  keep := fun k s => by
    rcases s with (e | ⟨o, e⟩) | r
    · exact .inl (.inl (k _ e))
    · exact .inl (.inr ⟨o, k _ e⟩)
    · exact .inr r
def iSeq (K : PySem.W.Frag) (tl : TE) : TI := fun σ H R => tl σ H fun x H1 => ∃ a xs, x = .ref a ∧ SqX K H1 a xs ∧ ∀ (J : It) (S : Hp → Prop), Wk J a S xs → S H1 → R J H1
theorem pi_seq {X : Cx} {tg l : Expr} {tl : TE} (hl : PE X l tl) : PI X tg l (iSeq X.K tl) := by
  refine ⟨fun pins s σ H R I h => ?_⟩
  have both : PI X tg l (fun σ H R => iList X.K tl σ H R ∨ iTup X.K tl σ H R) := ⟨fun pins s σ H R I h => h.elim ((pi_list hl).run pins s σ H R I) ((pi_tup hl).run pins s σ H R I)⟩
  refine thn (hl.run pins s σ H _ I h) fun v s1 ⟨x, H1, I1, r1, a, xs, ex, hx, q⟩ => ?_
  subst ex; cases r1
  rcases hx with hx | hx
  · obtain ⟨its, rv, p, hz⟩ := I1.list hx
    refine wpAny_pyIter_list p.isList ⟨s1.heap.objs.size, [s1.heap.objs.size], _, _, H1, rfl, I1.kept (t' := s1.toks) fun b o e => Heap.get?_push_of_some _ e, turn_list a _, ⟨_, Heap.get?_push_size _ rfl, rfl, rfl⟩, fun b hb => ?_, q _ _ wk_list hx⟩
    obtain rfl : b = s1.heap.objs.size := by simpa using hb
    exact I1.fpOk (Nat.le_refl _) (I1.hok.fresh (Nat.le_refl _))
  · obtain ⟨its, rv, p, hz⟩ := I1.tuple hx
    refine wpAny_pyIter_tuple (show s1.heap.IsTuple a its.toArray from p) ⟨s1.heap.objs.size, [s1.heap.objs.size], _, _, H1, rfl, I1.kept (t' := s1.toks) fun b o e => Heap.get?_push_of_some _ e, turn_tuple a _, ⟨_, Heap.get?_push_size _ rfl, rfl, rfl⟩, fun b hb => ?_, q _ _ wk_tup hx⟩
    obtain rfl : b = s1.heap.objs.size := by simpa using hb
    exact I1.fpOk (Nat.le_refl _) (I1.hok.fresh (Nat.le_refl _))
/-! ### comprehensions -/
section
variable {α : Type}
/-- where a comprehension stands: H1 as it began, D its list, ds its items' data -/
structure MF (H1 : Hp) (D : Addr) (ds : List α) (keep : α → Bool) (Rel : Hp → V → α → Prop) (i : Nat) (H : Hp) : Prop where
  same : Same H1 H
  acc : ∃ ys, H D = some (.lst ys) ∧ All2 (Rel H) ys ((ds.take i).filter keep)
variable {H1 : Hp} {D : Addr} {ds : List α} {keep : α → Bool} {Rel : Hp → V → α → Prop} {i : Nat} {H : Hp}
theorem mf_yes (m : MF H1 D ds keep Rel i H) {H' : Hp} {d : α} {y : V} (hd : H1 D = none) (mono : ∀ H H' y d, Fix H H' → Rel H y d → Rel H' y d) (hi : ds[i]? = some d) (hl : ds.length ≤ 100000) (s : Same H H') (k : keep d = true) (r : Rel H' y d) :
    ∃ acc, H' D = some (.lst acc) ∧ acc.length < sizeLine ∧ MF H1 D ds keep Rel (i + 1) (upd H' D (.lst (acc ++ [y]))) := by
  obtain ⟨s1, ys, e, a⟩ := m
  have e' := s _ _ e
  have fx : Fix H' (upd H' D (.lst (ys ++ [y]))) := Fix.lst e'
  refine ⟨ys, e', ?_, fun b o eb => ?_, ys ++ [y], upd_same, ?_⟩
  · have := a.len
    have h2 := List.length_filter_le keep (ds.take i)
    have h3 : (ds.take i).length ≤ ds.length := by rw [List.length_take]; exact Nat.min_le_right _ _
    rw [sizeLine_eq]; omega
  · rw [upd_ne (ne_of_none eb hd)]; exact s b o (s1 b o eb)
  · rw [List.take_add_one, hi, List.filter_append]
    show All2 _ _ (_ ++ [d].filter keep)
    rw [List.filter_cons_of_pos k]
    exact (a.imp fun _ _ q => mono _ _ _ _ ((Fix.of s).trans fx) q).app (.cons (mono _ _ _ _ fx r) .nil)
theorem mf_no (m : MF H1 D ds keep Rel i H) {H' : Hp} {d : α} (mono : ∀ H H' y d, Fix H H' → Rel H y d → Rel H' y d) (hi : ds[i]? = some d) (s : Same H H') (k : keep d = false) : MF H1 D ds keep Rel (i + 1) H' := by
  obtain ⟨s1, ys, e, a⟩ := m
  refine ⟨s1.trans s, ys, s _ _ e, ?_⟩
  rw [List.take_add_one, hi, List.filter_append]
  show All2 _ _ (_ ++ [d].filter keep)
  rw [List.filter_cons_of_neg (by rw [k]; exact Bool.false_ne_true), List.filter_nil, List.append_nil]
  exact a.imp fun _ _ q => mono _ _ _ _ (Fix.of s) q
/-- a comprehension over the walk J -/
theorem lc_mf {J : It} {a : Addr} {S : Hp → Prop} {xs : List V} {ds : List α} (W : Wk J a S xs) (keep : α → Bool) (Rel : Hp → V → α → Prop) {g : TG} {tt : TT} {te : TE} {vs : List Nat} {σ : L2.St} {H1 : Hp} {D : Addr} {Qd : Hp → Prop} (hS : S H1) (hD : H1 D = none)
    (hlen : xs.length = ds.length)
    (hs : ∀ i x d H, xs[i]? = some x → ds[i]? = some d → Same H1 H → MF H1 D ds keep Rel i H → g x (wipe σ vs) H fun σ2 H2 => wipe σ2 vs = wipe σ vs ∧ tt σ2 H2 fun b H3 =>
      if b = true then te σ2 H3 fun y H4 => ∃ acc, H4 D = some (.lst acc) ∧ acc.length < sizeLine ∧ MF H1 D ds keep Rel (i + 1) (upd H4 D (.lst (acc ++ [y]))) else MF H1 D ds keep Rel (i + 1) H3)
    (hd : ∀ H ys, Same H1 H → H D = some (.lst ys) → All2 (Rel H) ys (ds.filter keep) → Qd H) :
    ∃ W : Nat → Nat → Hp → Prop, (∃ m, W 0 m (upd H1 D (.lst []))) ∧ ∀ i m H, W i m H →
      (J.stop i H ∧ Qd H) ∨ (J.go i H ∧ ∃ Nx : Hp → Prop, (∀ H', Nx H' → ∃ m', m' < m ∧ W (i + 1) m' H') ∧ ∀ v H', J.yld i H v H' → g v (wipe σ vs) H' fun σ2 H2 => wipe σ2 vs = wipe σ vs ∧ tt σ2 H2 fun b H3 =>
        if b = true then te σ2 H3 fun y H4 => ∃ acc, H4 D = some (.lst acc) ∧ acc.length < sizeLine ∧ Nx (upd H4 D (.lst (acc ++ [y]))) else Nx H3) := by
  have stand : ∀ {H}, Same H1 H → S H := fun {H} s => W.keep (fun o e => s _ _ e) hS
  refine ⟨fun i m H => m + i = xs.length ∧ MF H1 D ds keep Rel i H, ⟨xs.length, rfl, fun b o e => by rw [upd_ne (ne_of_none e hD)]; exact e, [], upd_same, .nil⟩, fun i m H ⟨e, p⟩ => ?_⟩
  cases m with
  | zero =>
    obtain rfl : i = xs.length := by omega
    obtain ⟨ys, ey, al⟩ := p.acc
    refine .inl ⟨W.stop H (stand p.same), hd H ys p.same ey ?_⟩
    rw [List.take_of_length_le (by omega)] at al
    exact al
  | succ m =>
    have hi : i < xs.length := by omega
    refine .inr ⟨W.go i H hi (stand p.same), MF H1 D ds keep Rel (i + 1), fun H' p' => ⟨m, Nat.lt_succ_self m, by omega, p'⟩, fun v H' y => ?_⟩
    obtain ⟨rfl, ev⟩ := W.yld i H v H' hi (stand p.same) y
    exact hs i v ds[i] H' ev (List.getElem?_eq_getElem (by omega)) p.same p
end
end Sq
namespace Sq
open PySem PySem.Spec PyProof.Rows L2 Hb St
theorem wk_range {lo : Int} {n : Nat} {a : Addr} : Wk (Itr lo n) a (fun _ => True) ((List.range n).map fun k => V.int (lo + (k : Nat))) where
  go := fun i H hi _ => by
    show i < n
    simpa using hi
  stop := fun H _ => by show n ≤ _; simp
  yld := fun i H v H' hi _ y => by
    obtain ⟨e, ev⟩ := (show H' = H ∧ v = .int (lo + (i : Nat)) from y)
    have hn : i < n := by simpa using hi
    exact ⟨e, by rw [ev, List.getElem?_map, List.getElem?_range hn] <;> rfl⟩
  keep := fun _ _ => trivial
/-- a for over the walk J -/
theorem for_sq {J : It} {a : Addr} {S : Hp → Prop} {xs : List V} (W : Wk J a S xs) {g : TG} {tb : TS} {D : Ends} {σ : L2.St} {H : Hp} (Pv : Nat → L2.St → Hp → Prop) (h0 : Pv 0 σ H) (hk : ∀ i σ H, Pv i σ H → S H)
    (hs : ∀ i σ H x, xs[i]? = some x → Pv i σ H → g x σ H fun σ2 H2 => tb { D with nx := Pv (i + 1), ct := Pv (i + 1), bk := D.nx } σ2 H2) (hd : ∀ σ H, Pv xs.length σ H → D.nx σ H) :
    ∃ W : Nat → Nat → L2.St → Hp → Prop, (∃ m, W 0 m σ H) ∧ ∀ i m σ H, W i m σ H →
      (J.stop i H ∧ D.nx σ H) ∨ (J.go i H ∧ ∃ N : L2.St → Hp → Prop, (∀ σ' H', N σ' H' → ∃ m', m' < m ∧ W (i + 1) m' σ' H') ∧ ∀ v H', J.yld i H v H' → g v σ H' fun σ2 H2 => tb { D with nx := N, ct := N, bk := D.nx } σ2 H2) := by
  refine ⟨fun i m σ H => m + i = xs.length ∧ Pv i σ H, ⟨xs.length, rfl, h0⟩, fun i m σ H ⟨e, p⟩ => ?_⟩
  cases m with
  | zero =>
    obtain rfl : i = xs.length := by omega
    exact .inl ⟨W.stop H (hk _ _ _ p), hd σ H p⟩
  | succ m =>
    refine .inr ⟨W.go i H (by omega) (hk _ _ _ p), Pv (i + 1), fun σ' H' p' => ⟨m, Nat.lt_succ_self m, by omega, p'⟩, fun v H' y => ?_⟩
    obtain ⟨rfl, ev⟩ := W.yld i H v H' (by omega) (hk _ _ _ p) y
    exact hs i σ H' v ev p
/-- a walk of enumerate -/
structure En (J : It) (a : Addr) (S : Hp → Prop) (xs : List V) : Prop where
  go : ∀ i H, i < xs.length → S H → J.go i H
  stop : ∀ H, S H → J.stop xs.length H
  yld : ∀ i H v H', S H → J.yld i H v H' → ∃ T x, v = .ref T ∧ H T = none ∧ H' = upd H T (.tup [.int (i : Nat), x]) ∧ xs[i]? = some x
theorem en_list {K : PySem.W.Frag} {a : Addr} {xs : List V} : En (Ite K a) a (fun H => SqL K H a xs) xs where
  go := fun i H hi s => ⟨xs, xs[i], s, List.getElem?_eq_getElem hi⟩
  stop := fun H s => ⟨xs, s, Nat.le_refl _⟩
  yld := fun i H v H' s ⟨T, x, e1, e2, e3, f⟩ => ⟨T, x, e1, e2, e3, f xs s⟩
theorem en_tup {K : PySem.W.Frag} {a : Addr} {xs : List V} : En (En.IteT K a) a (fun H => SqT K H a xs) xs where
  go := fun i H hi s => ⟨xs, xs[i], s, List.getElem?_eq_getElem hi⟩
  stop := fun H s => ⟨xs, s, Nat.le_refl _⟩
  yld := fun i H v H' s ⟨T, x, e1, e2, e3, f⟩ => ⟨T, x, e1, e2, e3, f xs s⟩
theorem for_en {J : It} {a : Addr} {S : Hp → Prop} {xs : List V} (W : En J a S xs) {g : TG} {tb : TS} {D : Ends} {σ : L2.St} {H : Hp} (Pv : Nat → L2.St → Hp → Prop) (h0 : Pv 0 σ H) (hk : ∀ i σ H, Pv i σ H → S H)
    (hs : ∀ i σ H x T, xs[i]? = some x → Pv i σ H → H T = none → g (.ref T) σ (upd H T (.tup [.int (i : Nat), x])) fun σ2 H2 => tb { D with nx := Pv (i + 1), ct := Pv (i + 1), bk := D.nx } σ2 H2) (hd : ∀ σ H, Pv xs.length σ H → D.nx σ H) :
    ∃ W : Nat → Nat → L2.St → Hp → Prop, (∃ m, W 0 m σ H) ∧ ∀ i m σ H, W i m σ H →
      (J.stop i H ∧ D.nx σ H) ∨ (J.go i H ∧ ∃ N : L2.St → Hp → Prop, (∀ σ' H', N σ' H' → ∃ m', m' < m ∧ W (i + 1) m' σ' H') ∧ ∀ v H', J.yld i H v H' → g v σ H' fun σ2 H2 => tb { D with nx := N, ct := N, bk := D.nx } σ2 H2) := by
  refine ⟨fun i m σ H => m + i = xs.length ∧ Pv i σ H, ⟨xs.length, rfl, h0⟩, fun i m σ H ⟨e, p⟩ => ?_⟩
  cases m with
  | zero =>
    obtain rfl : i = xs.length := by omega
    exact .inl ⟨W.stop H (hk _ _ _ p), hd σ H p⟩
  | succ m =>
    refine .inr ⟨W.go i H (by omega) (hk _ _ _ p), Pv (i + 1), fun σ' H' p' => ⟨m, Nat.lt_succ_self m, by omega, p'⟩, fun v H' y => ?_⟩
    obtain ⟨T, x, rfl, hT, rfl, ex⟩ := W.yld i H v H' (hk _ _ _ p) y
    exact hs i σ H x T ex p hT
theorem pi_or {X : Cx} {tg it : Expr} {w1 w2 : TI} (h1 : PI X tg it w1) (h2 : PI X tg it w2) : PI X tg it (fun σ H R => w1 σ H R ∨ w2 σ H R) := ⟨fun pins s σ H R I h => h.elim (h1.run pins s σ H R I) (h2.run pins s σ H R I)⟩
def rTupE (K : PySem.W.Frag) : List V → Hp → VK → Prop := fun xs H Q => ∃ p ys, xs = [V.ref p] ∧ ((SqL K H p ys ∧ ∀ l, H l = none → Q (.ref l) (upd H l (.tup ys))) ∨ (SqT K H p ys ∧ Q (.ref p) H))
theorem call_tupE {X : Cx} : CallR X (.type "tuple") (rTupE X.K) := call_tuple_of
end Sq

/-! comprehensions over zip and enumerate, dict comprehensions, max(.., default=..), D.get(x) of a dict of the text -/
namespace Zp
open PySem PySem.Spec PyProof.Rows L2 Hb St Sq RZ
/-- a walk of new pairs: where S stands, at the i-th turn the i-th of ps -/
structure Wp (J : It) (S : Hp → Prop) (ps : List (V × V)) : Prop where
  go : ∀ i H, i < ps.length → S H → J.go i H
  stop : ∀ H, S H → J.stop ps.length H
  yld : ∀ i H v H', i < ps.length → S H → J.yld i H v H' → ∃ T p, v = .ref T ∧ H T = none ∧ H' = upd H T (.tup [p.1, p.2]) ∧ ps[i]? = some p
  keep : ∀ {H H' : Hp}, Same H H' → S H → S H'
theorem zip_at {xs ys : List V} {i : Nat} {x y : V} (hx : xs[i]? = some x) (hy : ys[i]? = some y) : (xs.zip ys)[i]? = some (x, y) := by
  rw [List.getElem?_zip_eq_some]
  exact ⟨hx, hy⟩
theorem wp_tup {K : PySem.W.Frag} {a b : Addr} {xs ys : List V} : Wp (ItzT K a b) (fun H => SqT K H a xs ∧ SqT K H b ys) (xs.zip ys) where
  go := fun i H hi s => by
    rw [List.length_zip] at hi
    exact ⟨xs, ys, xs[i]'(by omega), ys[i]'(by omega), s.1, s.2, List.getElem?_eq_getElem _, List.getElem?_eq_getElem _⟩
  stop := fun H s => ⟨xs, ys, s.1, s.2, by rw [List.length_zip]; omega⟩
  yld := fun i H v H' hi s ⟨T, x, y, e1, e2, e3, f, g⟩ => ⟨T, (x, y), e1, e2, e3, zip_at (f xs s.1) (g ys s.2)⟩
  keep := fun k s => ⟨tupFix (Fix.of k) s.1, tupFix (Fix.of k) s.2⟩
theorem wp_lst {K : PySem.W.Frag} {a b : Addr} {xs ys : List V} : Wp (Itz K a b) (fun H => SqL K H a xs ∧ SqL K H b ys) (xs.zip ys) where
  go := fun i H hi s => by
    rw [List.length_zip] at hi
    exact ⟨xs, ys, xs[i]'(by omega), ys[i]'(by omega), s.1, s.2, List.getElem?_eq_getElem _, List.getElem?_eq_getElem _⟩
  stop := fun H s => ⟨xs, ys, s.1, s.2, by rw [List.length_zip]; omega⟩
  yld := fun i H v H' hi s ⟨T, x, y, e1, e2, e3, f, g⟩ => ⟨T, (x, y), e1, e2, e3, zip_at (f xs s.1) (g ys s.2)⟩
  keep := fun k s => ⟨lstSame k s.1, lstSame k s.2⟩
section
variable {α : Type}
/-- a comprehension over a walk of pairs -/
theorem lc_mp {J : It} {S : Hp → Prop} {ps : List (V × V)} {ds : List α} (W : Wp J S ps) (keep : α → Bool) (Rel : Hp → V → α → Prop) {g : TG} {tt : TT} {te : TE} {vs : List Nat} {σ : L2.St} {H1 : Hp} {D : Addr} {Qd : Hp → Prop} (hS : S H1) (hD : H1 D = none)
    (hlen : ps.length = ds.length) (mono : ∀ H H' y d, Fix H H' → Rel H y d → Rel H' y d)
    (hs : ∀ i T p d H, ps[i]? = some p → ds[i]? = some d → Same H1 H → H T = some (.tup [p.1, p.2]) → MF H1 D ds keep Rel i H → g (.ref T) (wipe σ vs) H fun σ2 H2 => wipe σ2 vs = wipe σ vs ∧ tt σ2 H2 fun b H3 =>
      if b = true then te σ2 H3 fun y H4 => ∃ acc, H4 D = some (.lst acc) ∧ acc.length < sizeLine ∧ MF H1 D ds keep Rel (i + 1) (upd H4 D (.lst (acc ++ [y]))) else MF H1 D ds keep Rel (i + 1) H3)
    (hd : ∀ H ys, Same H1 H → H D = some (.lst ys) → All2 (Rel H) ys (ds.filter keep) → Qd H) :
    ∃ W : Nat → Nat → Hp → Prop, (∃ m, W 0 m (upd H1 D (.lst []))) ∧ ∀ i m H, W i m H →
      (J.stop i H ∧ Qd H) ∨ (J.go i H ∧ ∃ Nx : Hp → Prop, (∀ H', Nx H' → ∃ m', m' < m ∧ W (i + 1) m' H') ∧ ∀ v H', J.yld i H v H' → g v (wipe σ vs) H' fun σ2 H2 => wipe σ2 vs = wipe σ vs ∧ tt σ2 H2 fun b H3 =>
        if b = true then te σ2 H3 fun y H4 => ∃ acc, H4 D = some (.lst acc) ∧ acc.length < sizeLine ∧ Nx (upd H4 D (.lst (acc ++ [y]))) else Nx H3) := by
  have stand : ∀ {H}, Same H1 H → S H := fun {H} s => W.keep s hS
  refine ⟨fun i m H => m + i = ps.length ∧ MF H1 D ds keep Rel i H, ⟨ps.length, rfl, fun b o e => by rw [upd_ne (ne_of_none e hD)]; exact e, [], upd_same, .nil⟩, fun i m H ⟨e, p⟩ => ?_⟩
  cases m with
  | zero =>
    obtain rfl : i = ps.length := by omega
    obtain ⟨ys, ey, al⟩ := p.acc
    refine .inl ⟨W.stop H (stand p.same), hd H ys p.same ey ?_⟩
    rw [List.take_of_length_le (by omega)] at al
    exact al
  | succ m =>
    have hi : i < ps.length := by omega
    refine .inr ⟨W.go i H hi (stand p.same), MF H1 D ds keep Rel (i + 1), fun H' p' => ⟨m, Nat.lt_succ_self m, by omega, p'⟩, fun v H' y => ?_⟩
    obtain ⟨T, x, rfl, hT, rfl, ex⟩ := W.yld i H v H' hi (stand p.same) y
    have s2 := same_new hT (.tup [x.1, x.2])
    obtain ⟨s1, ys, ey, al⟩ := p
    exact hs i T x ds[i] _ ex (List.getElem?_eq_getElem (by omega)) (s1.trans s2) upd_same ⟨s1.trans s2, ys, s2 _ _ ey, al.imp fun _ _ q => mono _ _ _ _ (Fix.of s2) q⟩
/-- a dict comprehension over enumerate: kvs of the first i items -/
theorem dc_en {J : It} {a : Addr} {S : Hp → Prop} {xs : List V} (W : Sq.En J a S xs) (kv : Nat → List (L2.Key × V)) {g : TG} {tt : TT} {tk tv : TE} {vs : List Nat} {σ : L2.St} {H1 : Hp} {D : Addr} {Qd : Hp → Prop} (hS : ∀ {H}, Same H1 H → S H) (hD : H1 D = none)
    (h0 : kv 0 = []) (hl : ∀ i, (kv i).length < sizeLine)
    (hs : ∀ i T x H, xs[i]? = some x → Same H1 H → H T = some (.tup [.int (i : Nat), x]) → H D = some (.dK (kv i)) → g (.ref T) (wipe σ vs) H fun σ2 H2 => wipe σ2 vs = wipe σ vs ∧ tt σ2 H2 fun b H3 =>
      b = true ∧ tk σ2 H3 fun y H4 => tv σ2 H4 fun z H5 => Same H H5 ∧ ∃ k, y = kV k ∧ putK (kv i) k z = kv (i + 1))
    (hd : ∀ H, Same H1 H → H D = some (.dK (kv xs.length)) → Qd H) (mono : ∀ {σ H} {Q Q' : L2.St → Hp → Prop}, (∀ σ H, Q σ H → Q' σ H) → ∀ v, g v σ H Q → g v σ H Q') (monot : ∀ {σ H} {Q Q' : Bool → Hp → Prop}, (∀ b H, Q b H → Q' b H) → tt σ H Q → tt σ H Q')
    (monok : ∀ {σ H} {Q Q' : VK}, (∀ v H, Q v H → Q' v H) → tk σ H Q → tk σ H Q') (monov : ∀ {σ H} {Q Q' : VK}, (∀ v H, Q v H → Q' v H) → tv σ H Q → tv σ H Q') :
    ∃ W : Nat → Nat → Hp → Prop, (∃ m, W 0 m (upd H1 D (.dK []))) ∧ ∀ i m H, W i m H →
      (J.stop i H ∧ Qd H) ∨ (J.go i H ∧ ∃ Nx : Hp → Prop, (∀ H', Nx H' → ∃ m', m' < m ∧ W (i + 1) m' H') ∧ ∀ v H', J.yld i H v H' → g v (wipe σ vs) H' fun σ2 H2 => wipe σ2 vs = wipe σ vs ∧ tt σ2 H2 fun b H3 =>
        if b = true then tk σ2 H3 fun y H4 => tv σ2 H4 fun z H5 => ∃ kvs k, y = kV k ∧ H5 D = some (.dK kvs) ∧ kvs.length < sizeLine ∧ Nx (upd H5 D (.dK (putK kvs k z))) else Nx H3) := by
  refine ⟨fun i m H => m + i = xs.length ∧ Same H1 H ∧ H D = some (.dK (kv i)), ⟨xs.length, rfl, fun b o e => by rw [upd_ne (ne_of_none e hD)]; exact e, by rw [upd_same, h0]⟩, fun i m H ⟨e, s, eD⟩ => ?_⟩
  cases m with
  | zero =>
    obtain rfl : i = xs.length := by omega
    exact .inl ⟨W.stop H (hS s), hd H s eD⟩
  | succ m =>
    have hi : i < xs.length := by omega
    refine .inr ⟨W.go i H hi (hS s), fun H' => Same H1 H' ∧ H' D = some (.dK (kv (i + 1))), fun H' p' => ⟨m, Nat.lt_succ_self m, by omega, p'⟩, fun v H' y => ?_⟩
    obtain ⟨T, x, rfl, hT, rfl, ex⟩ := W.yld i H v H' (hS s) y
    have s2 := same_new hT (.tup [.int (i : Nat), x])
    refine mono (fun σ2 H2 q => ⟨q.1, monot (fun b H3 q => ?_) q.2⟩) _ (hs i T x _ ex (s.trans s2) upd_same (s2 _ _ eD))
    obtain ⟨rfl, q⟩ := q
    rw [if_pos rfl]
    refine monok (fun y H4 q => monov (fun z H5 q => ?_) q) q
    obtain ⟨s3, k, ek, ep⟩ := q
    refine ⟨_, k, ek, s3 _ _ (s2 _ _ eD), hl i, fun b o e => ?_, by rw [upd_same, ep]⟩
    rw [upd_ne (ne_of_none e hD)]
    exact s3 _ _ ((s.trans s2) _ _ e)
end
/-! ### max(xs, default=d) -/
def rMaxDf (K : PySem.W.Frag) : List V → List V → Hp → VK → Prop := fun xs zs H Q => ∃ (a : Addr) (ns : List Int) (d : Int), xs = [.ref a] ∧ zs = [.int d] ∧ SqL K H a (ns.map V.int) ∧ (ns = [] → Q (.int d) H) ∧ ∀ m, m ∈ ns → (∀ y ∈ ns, y ≤ m) → Q (.int m) H
theorem maxOf_is (x : Int) : ∀ xs : List Int, PySem.W.maxOf x xs ∈ x :: xs ∧ ∀ y ∈ x :: xs, y ≤ PySem.W.maxOf x xs := by
  intro xs
  unfold PySem.W.maxOf
  induction xs generalizing x with
  | nil => exact ⟨List.mem_cons_self, fun y hy => by rw [List.mem_singleton.mp hy]; exact Int.le_refl _⟩
  | cons z xs ih =>
    rw [List.foldl_cons]
    by_cases c : PySem.W.DatumOrd.lt x z = true
    · rw [if_pos c]
      have c' : x < z := of_decide_eq_true c
      obtain ⟨h1, h2⟩ := ih z
      refine ⟨List.mem_cons_of_mem _ h1, fun y hy => ?_⟩
      rcases List.mem_cons.mp hy with e | hy
      · have := h2 z List.mem_cons_self
        omega
      · exact h2 y hy
    · rw [if_neg c]
      have c' : ¬ x < z := fun q => c (decide_eq_true q)
      obtain ⟨h1, h2⟩ := ih x
      have hx := h2 x List.mem_cons_self
      refine ⟨?_, fun y hy => ?_⟩
      · rcases List.mem_cons.mp h1 with e | h1
        · rw [e]; exact List.mem_cons_self
        · exact List.mem_cons_of_mem _ (List.mem_cons_of_mem _ h1)
      · rcases List.mem_cons.mp hy with e | hy
        · omega
        · rcases List.mem_cons.mp hy with e | hy
          · omega
          · exact h2 y (List.mem_cons_of_mem _ hy)
theorem cr_maxDf {X : Cx} (hc : X.calm = true) (hu : X.A.units + 64 < cLine) : CallRK X (.builtin "max") ["default"] (rMaxDf X.K) := by
  intro pins s σ H xs zs us ws Q I r1 r2 h
  obtain ⟨a, ns, d, rfl, rfl, hs, q0, q1⟩ := h
  obtain ⟨its, rv, hl, _⟩ := I.list hs
  cases r2 with
  | cons rd rt =>
    cases rt
    obtain ⟨t, rfl⟩ := rd
    rw [Vals.ref1 r1]
    show wpAny (model X.prog X.w) X.A (call (.builtin "max") [.ref a] [(Str.ofString "default", _)]) _ _ s
    refine PySem.W.max_list_datum_default (α := Int) (I.ok.hd hc) hl.isList (PySem.W.HoldAll.of_ints rv.ints) (by show X.A.units + 1 + 0 < cLine; omega) (fun e h' tk hk => ⟨.int d, H, I.kept hk, ⟨_, rfl⟩, q0 e⟩) fun y ys i v h' tk e hv hh hk => ?_
    obtain ⟨as, hr⟩ := hh
    obtain ⟨m1, m2⟩ := maxOf_is y ys
    generalize PySem.W.maxOf y ys = m at hr m1 m2
    have hr : Reads h' v (.int m) as := hr
    cases hr with
    | int _ t => exact ⟨.int m, H, I.kept hk, ⟨t, rfl⟩, q1 m (e ▸ m1) fun y hy => m2 y (e ▸ hy)⟩
/-! ### D.get(x), D a dict of the text -/
def tKGet (K : PySem.W.Frag) (w : World) (p : Addr) (ty : TE) : TE := fun σ H Q => ty σ H fun y H2 => ∃ z v, y = .str z ∧ KDct K w p z v ∧ Q v H2
theorem pe_kget {X : Cx} {x : Str} {xp : Pos} {e : Expr} {apos cpos : Pos} {ty : TE} {p : Addr} {es : Array DictEntry} {n : Nat} (D : KDict X.K X.w p es n) (hg : Gl X x) (hm : X.mg x = some (.ref p)) (he : PE X e ty) (m : M1 X (.Name x xp) "get" apos e cpos) (hdb : (x == ("__debug__" : Str)) = false := by decide) :
    PE X (.Call (.Attribute (.Name x xp) "get" apos) [e] [] cpos) (tKGet X.K X.w p ty) := by
  refine ⟨fun pins s σ H Q I h => ?_⟩
  have ho : PE X (.Name x xp) (tC (.ref p)) := pe_glob hg hm rfl hdb
  refine wpAny_Call_method m.base m.few m.line PySem.F.plainAttrs_dict PySem.F.slot_dict_get PySem.F.type_dict_get (thn (ho.run pins s σ H (fun x H1 => x = .ref p ∧ H1 = H) I ⟨rfl, rfl⟩) fun u s1 ⟨x, H1, I1, rx, ex, eH⟩ => ?_)
  subst ex eH
  obtain rfl : u = Value.ref p := rx
  have mo := PySem.W.mapOf_K (prog := X.prog) (w := X.w) I1.kIn D.at_ D.lit
  refine ⟨mo.typeIs, fun b q => ?_, ?_⟩
  · cases q
    exact ⟨_, I1.kIn _ _ D.at_, rfl⟩
  rw [m.trees]
  refine Calls.callWith_builtin rfl (Calls.evalArgs_plain (Calls.spliced_cons (thn (he.run pins s1 σ H1 _ I1 h) fun iv s2 ⟨y, H2, I2, ry, z, v, ey, ⟨es', n', u0, hl, hk, eu, ru⟩, q2⟩ => Calls.spliced_nil ?_)))
  subst ey
  obtain ⟨t, rfl⟩ := ry
  have mo2 := PySem.W.mapOf_K (prog := X.prog) (w := X.w) I2.kIn hl hk
  refine call_meetsIn PySem.F.slot_dict_get mo2.typeIs PySem.F.entry_dict_get (PySem.F.args_dict_get_2 _ _) (meets_dict_get _ p (strKind_is X.prog X.w z t) D.low) ⟨_, mo2, ?_⟩
  rw [PySem.W.find_K hl eu]
  exact ⟨v, H2, I2.tok _, ru, q2⟩
end Zp
namespace Zp
open PySem PySem.Spec PyProof.Rows L2 Hb St Sq RZ
theorem pe_or2 {X : Cx} {e : Expr} {t1 t2 : TE} (h1 : PE X e t1) (h2 : PE X e t2) : PE X e (fun σ H Q => t1 σ H Q ∨ t2 σ H Q) := ⟨fun pins s σ H Q I h => h.elim (h1.run pins s σ H Q I) (h2.run pins s σ H Q I)⟩
theorem _root_.L2.Room.units65 {k : Nat} {A : Around} (r : Room k A) : A.units + 65 < cLine := by have := r.un; omega
end Zp

/-! readings -/
namespace Rd
open PySem PySem.Spec PyProof.Rows L2 Hb St Sq RZ
section
variable {K : PySem.W.Frag} {H : Hp} {Q : VK}
theorem ty_tup {a : Addr} {xs : List V} (h : SqT K H a xs) : TyX K H (.ref a) (.type "tuple") := by
  rcases h with (e | ⟨o, e⟩) | ⟨o, its, n, e, c, _⟩
  · exact .base (.tup e)
  · exact .fTuple e
  · exact .kTuple e c
theorem ty_lst {a : Addr} {xs : List V} (h : SqL K H a xs) : TyX K H (.ref a) (.type "list") := by
  rcases h with (e | ⟨o, e⟩) | ⟨o, its, n, e, c, _⟩
  · exact .base (.lst e)
  · exact .base (.frz e)
  · exact .kList e c
theorem rd_isTup {a : Addr} {xs : List V} (h : SqT K H a xs) (q : Q (.bl true) H) : rIsi K [.ref a, .ty "tuple"] H Q := ⟨_, _, _, _, _, rfl, .ty "tuple", ty_tup h, kit_ty (r := true) (by decide +kernel), q⟩
theorem rd_noTupL {a : Addr} {xs : List V} (h : SqL K H a xs) (q : Q (.bl false) H) : rIsi K [.ref a, .ty "tuple"] H Q := ⟨_, _, _, _, _, rfl, .ty "tuple", ty_lst h, kit_ty (r := false) (by decide +kernel), q⟩
theorem rd_noTupS {x : Str} (q : Q (.bl false) H) : rIsi K [.str x, .ty "tuple"] H Q := ⟨_, _, _, _, _, rfl, .ty "tuple", .base (.str x), kit_ty (r := false) (by decide +kernel), q⟩
theorem rd_noTupI {i : Int} (q : Q (.bl false) H) : rIsi K [.int i, .ty "tuple"] H Q := ⟨_, _, _, _, _, rfl, .ty "tuple", .base (.int i), kit_ty (r := false) (by decide +kernel), q⟩
theorem rd_isStr {x : Str} (q : Q (.bl true) H) : rIsi K [.str x, .ty "str"] H Q := ⟨_, _, _, _, _, rfl, .ty "str", .base (.str x), kit_ty (r := true) (by decide +kernel), q⟩
theorem rd_noStr {i : Int} (q : Q (.bl false) H) : rIsi K [.int i, .ty "str"] H Q := ⟨_, _, _, _, _, rfl, .ty "str", .base (.int i), kit_ty (r := false) (by decide +kernel), q⟩
theorem sIx1 {n : Nat} (h : 1 ≤ n) : HT.sIx n 0 (some 1) = 1 := by rw [show (1 : Int) = ((1 : Nat) : Int) from rfl, HT.sIx_nat]; omega
theorem cut1 {v : V} {xs : List V} : cutV (v :: xs) (some 1) none = xs := by
  unfold cutV
  rw [sIx1 (by simp), HT.sIx_none, List.drop_one, List.tail_cons, List.take_of_length_le (by simp)]
/-- a tuple from its second thing on -/
theorem rd_tail {a : Addr} {v : V} {xs : List V} (h : SqT K H a (v :: xs)) (q : ∀ p H', H p = none → Same H H' → H' p = some (.tup xs) → Q (.ref p) H') : rSlA K (.ref a) (some 1) none H Q := by
  refine ⟨a, _, rfl, h, fun ⟨z, _⟩ => ?_, fun _ p hp => ?_⟩
  · rw [sIx1 (by simp)] at z
    cases z
  · rw [cut1]
    exact q p _ hp (same_new hp _) upd_same
theorem rd_all {a : Addr} {bs : List Bool} (h : SqL K H a (bs.map V.bl)) (q : Q (.bl (bs.all id)) H) : rAll K [.ref a] H Q := ⟨a, bs, rfl, h, q⟩
theorem bl_true {α : Type} {ys : List V} {ds : List α} (h : All2 (fun (y : V) (_ : α) => y = .bl true) ys ds) : ys = (ds.map fun _ => true).map V.bl := by
  rw [List.map_map]
  exact h.map_eq fun a b e => e
theorem rd_allT {α : Type} {a : Addr} {ys : List V} {ds : List α} (h : H a = some (.lst ys)) (al : All2 (fun (y : V) (_ : α) => y = .bl true) ys ds) (q : Q (.bl true) H) : rAll K [.ref a] H Q := by
  refine rd_all (bs := ds.map fun _ => true) (SqL.of (by rw [← bl_true al]; exact h)) ?_
  rw [show ((ds.map fun _ => true).all id) = true by simp]
  exact q
theorem at_map {α β : Type} {f : α → β} {l : List α} {i : Nat} {x : β} {d : α} (h : (l.map f)[i]? = some x) (k : l[i]? = some d) : x = f d := by
  rw [List.getElem?_map, k] at h
  exact (Option.some.inj h).symm
theorem at_mem {α : Type} {l : List α} {i : Nat} {d : α} (k : l[i]? = some d) : d ∈ l := List.mem_of_getElem? k
theorem filter_all {α : Type} (l : List α) : l.filter (fun _ => true) = l := List.filter_eq_self.mpr fun _ _ => rfl
/-- an item from behind -/
theorem at_last {xs : List V} {x : V} : atI (xs ++ [x]) (-1) = some x := by
  unfold atI ixN
  rw [List.length_append, if_neg (by decide), if_pos (by simp; omega)]
  show (xs ++ [x])[(-1 + ((xs.length + [x].length : Nat) : Int)).toNat]? = some x
  rw [show (-1 + ((xs.length + [x].length : Nat) : Int)).toNat = xs.length by simp; omega, List.getElem?_append_right (Nat.le_refl _), Nat.sub_self]
  rfl
theorem at_nat {α : Type} {xs : List α} {i : Nat} {x : α} (h : xs[i]? = some x) : atI xs (i : Nat) = some x := by
  have hi := (List.getElem?_eq_some_iff.mp h).1
  unfold atI ixN
  rw [if_pos (by omega), if_pos (by omega)]
  exact h
theorem at0 {α : Type} {x : α} {xs : List α} : atI (x :: xs) 0 = some x := at_nat (i := 0) rfl
theorem at1 {α : Type} {x y : α} {xs : List α} : atI (x :: y :: xs) 1 = some y := at_nat (i := 1) rfl
theorem at2 {α : Type} {x y z : α} {xs : List α} : atI (x :: y :: z :: xs) 2 = some z := at_nat (i := 2) rfl
theorem rd_slc {σ : L2.St} {i : Nat} {a : Addr} {v : V} {xs : List V} {tr : TA} {R : List V → Hp → Prop} (e : σ[i]? = some (some (.ref a))) (h : SqT K H a (v :: xs)) (q : ∀ p H', H p = none → Same H H' → H' p = some (.tup xs) → tr σ H' fun ys H2 => R (.ref p :: ys) H2) :
    tCons (tSl (rSlA K) (tVar i) (tPart (tC (.int 1))) tNoPart) tr σ H R := by
  refine ⟨_, e, 1, rfl, ?_⟩
  exact rd_tail (Q := fun x H1 => tr σ H1 fun ys H2 => R (x :: ys) H2) h q
end
end Rd

/-! errors of classes of the program's own, over Exception through other own classes, whose __init__ keeps one thing: self.at = at -/
namespace Xb
open PySem PySem.W PySem.Calls PyProof.Rows PySem.HandSPX
abbrev exB : List Value := [.type "Exception", .type "BaseException", .type "object"]
def iA (p1 p2 : Pos) : Arguments := { posonlyargs := [], args := [{ arg := "self", annotation := none, pos := p1 }, { arg := "at", annotation := none, pos := p2 }], vararg := none, kwonlyargs := [], kw_defaults := [], kwarg := none, defaults := [] }
def iB (q1 q2 q3 q4 : Pos) : List Stmt := [.Assign [.Attribute (.Name "self" q1) "at" q2] (.Name "at" q3) q4]
def iS : Scope := { kind := .function, names := [(PySem.Str.ofString "self", .local), (PySem.Str.ofString "at", .local)], isGenerator := false, isCoroutine := false, more := [] }
/-- what the written part says of the class cn, at C, and of its __init__, at fI -/
structure ErrC (K : Frag) (mg : Str → Option Value) (cn : Str) (C fI : Addr) : Prop where
  gC : mg cn = some (.ref C)
  cls : ∃ nm q N bs bm sn sub ab col dd k0 k1 k2 k3 k5, K.lookup C = some (excClassObj nm q C N bs bm true sn sub ab col dd k0 k1 k2 k3 k5 "Exception.__new__") ∧ excTail exB bm = true
  sa : findIn K (.ref C) "__setattr__" = some (some (.builtin "object.__setattr__"))
  ga : findIn K (.ref C) "__getattribute__" = some (some (.builtin "BaseException.__getattribute__"))
  gg : findIn K (.ref C) "__getattr__" = some none
  noN : findIn K (.ref C) "at" = some none
  iC : findIn K (.ref C) "__init__" = some (some (.ref fI))
  tC : typeIn K (.ref fI) = some (.type "function")
  kC : keepIn K (.ref C) = true
  exC : subIn K (.ref C) (.type "BaseException") = some true
  tyC : typeIn K (.ref C) = some (.type "type")
  hdC : hasDictIn K C = true
  te : exmOne K (.ref C) (.ref C) = some true
  fn : ∃ (oc : Value) (od : Option Addr) (qn : Str) (doc pm : Value) (an : Option Addr) (cdv ct : Value) (osl : Array (Option Value)) (p1 p2 q1 q2 q3 q4 : Pos),
    K.lookup fI = some ⟨oc, od, .func (fnOf "__init__" qn (iA p1 p2) (iB q1 q2 q3 q4) iS .none .none doc pm an cdv ct), osl⟩ ∧ codeIn K cdv qn = true
theorem one_size (v : Value) : [v].length ≤ sizeLine := by
  rw [sizeLine_eq]
  exact (by decide : 1 ≤ 16777216)
theorem at_local {M : Model} {s : Shared} {name : Str} {scope : Scope} {L a : Addr} {cd : Value} {m : Str → Option Value} {x : Str} {pos : Pos} {v : Value} {Q : Value → Shared → Prop} {A : Around} {E : Value → Shared → Prop} (hn : s.heap.Ns L m) (hv : m x = some v) (h : Q v s)
    (hk : scope.kind = .function := by rfl) (hl : (envOfC name scope L a cd).kindOf x = some .local := by rfl) (hd : (x == ("__debug__" : Str)) = false := by decide) :
    wpAny M A (eval (.Name x pos) (envOfC name scope L a cd)) Q E s := wpAny_Name (wpAny_loadName_local hk hl hn hv h) hd
/-- what __init__ leaves of a fresh exception at x -/
structure Ended (h h' : Heap) (x C dx t1 : Addr) (v : Value) : Prop where
  keep : ∀ b o, b ≠ x → h.get? b = some o → h'.get? b = some o
  obj : h'.get? x = some { cls := .ref C, dict := some dx, data := .fields #[.ref t1, .none, .none, .none, .bool false, .none] }
  dbig : h.objs.size ≤ dx
  dne : dx ≠ x
  ns : h'.Ns1 dx (fun y => if y = "at" then some v else none)
structure Made (h h' : Heap) (e C d : Addr) (v : Value) : Prop where
  keep : ∀ b o, h.get? b = some o → h'.get? b = some o
  new : h.objs.size ≤ e
  obj : ∃ oe vs, h'.get? e = some oe ∧ oe.cls = .ref C ∧ oe.dict = some d ∧ oe.data = .fields vs ∧ vs[1]? = some .none
  dbig : h.objs.size ≤ d
  dne : d ≠ e
  ns : h'.Ns1 d (fun y => if y = "at" then some v else none)
section
open Builtin Builtin.ObjectAttr
variable {prog : Program} {w : World} {A : Around} {E : Value → Shared → Prop} {R : Result → Shared → Prop} {K : Frag} {mg : Str → Option Value} {cn : Str} {C fI : Addr}
/-- the first store to such an exception: it gets its dict -/
theorem first_store {hp : Heap} {g : Array GenState} {d : Drawn} {t : Nat} {os : OsState} {name : Str} {tk : Tok} {v : Value} {x : Addr} {fv : Array Value} {cd : ClassData}
    (X : K.In hp) (hx : hp.get? x = some { cls := .ref C, data := .fields fv }) (hcd : clsIn K C = some cd) (ho : excOver K C exB = true) (hh : cd.hasDict = true) (ha : findIn K (.ref C) name = some none)
    (hq : ∀ h' tk' dx, (∀ b o, b ≠ x → hp.get? b = some o → h'.get? b = some o) → hp.objs.size ≤ dx → dx ≠ x → h'.get? x = some { cls := .ref C, dict := some dx, data := .fields fv } →
      h'.Ns1 dx (fun y => if y = name then some v else none) → R (.ok (.ret .none)) ⟨h', g, d, tk', os⟩) :
    codeAny (model prog w) A (.call (.builtin "object.__setattr__") ⟨[.ref x, .str name tk, v], []⟩) R ⟨hp, g, d, t, os⟩ := by
  have I : InstAt hp x { cls := .ref C, data := .fields fv } C none := ⟨hx, rfl, rfl, trivial⟩
  have nx : x ≠ hp.objs.size := Nat.ne_of_lt (Heap.lt_size hx)
  refine osa_openX (r := none) F.store_Exception X I ho (by unfold takerIn; rw [ha]; rfl) fun b => ?_
  show wpAny _ _ (storeInOwnDict (.ref x) (.ref C) (.str name tk) name v b) _ _ _
  have hC : Looks (model prog w) hp (classData C) cd := looks_clsIn X hcd
  obtain ⟨_, _, _, _, _, hd, _, _, _, _, _⟩ := cd
  dsimp only at hh
  subst hh
  unfold storeInOwnDict ownDictForStores
  repeat (first | with_reducible refine wpAny_loadPart_at hx ?_ | with_reducible refine hC.at ?_ | with_reducible refine HandSPX.store_in_new ?_ ?_ | wp_step)
  · exact ⟨_, #[], _, (Heap.get?_update_ne _ _ _ _ nx.symm).trans (Heap.get?_push_at rfl rfl), rfl, fun e he => absurd he (by simp), fun _ => rfl⟩
  · intro h' tk' hn' hs
    have old : (hp.push { cls := .type "dict", data := .dict #[] }).get? x = some { cls := .ref C, data := .fields fv } := Heap.get?_push_of_some _ hx
    refine hq h' tk' hp.objs.size (fun b o hb ho => ?_) (Nat.le_refl _) nx.symm ?_ hn'
    · exact (hs.2 b (Nat.ne_of_lt (Heap.lt_size ho))).trans ((Heap.get?_update_ne _ _ _ _ hb).trans (Heap.get?_push_of_some _ ho))
    · exact (hs.2 x nx).trans (Heap.get?_update_self _ old rfl)
theorem err_init (T : ErrC K mg cn C fI) {s : Shared} {x t0 : Addr} {v : Value} (X : K.In s.heap) (hlim : s.heap.NoLimit) (hx : s.heap.get? x = some (excO C t0)) (hroom : A.depth < recursionLimit)
    (hq : ∀ h' tk dx, Ended s.heap h' x C dx t0 v → R (.ok (.ret .none)) { s with heap := h', toks := tk }) :
    codeAny (model prog w) A (.call (.ref fI) ⟨[.ref x, v], []⟩) R s := by
  obtain ⟨oc, od, qn, doc, pm, an, cdv, ct, osl, p1, p2, q1, q2, q3, q4, ho, hcd⟩ := T.fn
  obtain ⟨nm, q, N, bs, bm, sn, sub, ab, col, dd, k0, k1, k2, k3, k5, hC, hbm⟩ := T.cls
  have hcl : clsIn K C = some { name := nm, bases := bs, mro := .ref C :: bm, ns := N, qualname := q, hasDict := true, slotNames := sn, subclasses := sub, abstract := ab, collection := col, hasDel := false } := by unfold clsIn; rw [hC] <;> rfl
  have over : excOver K C exB = true := by
    unfold excOver
    rw [hcl]
    show ((C == C) && excTail exB bm) = true
    rw [hbm, beq_self_eq_true]
    rfl
  refine Att.call_fn (binds := [("self", .ref x), ("at", v)]) X hlim ho hcd hroom (BindsTo.of_eq (by first | rfl | with_unfolding_all rfl)) (by first | rfl | decide | with_unfolding_all rfl) (fun s₁ IC => ?_) rfl rfl rfl
  obtain ⟨h₁, tk₁, rfl⟩ := IC.toInCall.same
  have k : ∀ b o, s.heap.get? b = some o → h₁.get? b = some o := IC.toInCall.keep
  have hn := IC.toInCall.ns
  have X₁ : K.In h₁ := X.keeps k
  have hx₁ := k _ _ hx
  show wpAny _ _ (execs _ _) _ _ _
  refine wpAny_execs_cons (plainObj_wpAny_Assign_Attribute ?_)
  refine at_local (v := v) hn (by first | rfl | with_unfolding_all rfl | kernel_rfl) (at_local (v := .ref x) hn (by first | rfl | with_unfolding_all rfl | kernel_rfl) ?_)
  refine set_plain X₁ (ox := excO C t0) (od := none) ⟨hx₁, rfl, rfl, trivial⟩ T.sa ?_
  refine first_store X₁ hx₁ hcl over rfl T.noN (fun h₃ tk₃ dx k₃ dn dne hx₃ hn₃ => ?_)
  show wpAny _ _ (execs _ _) _ _ _
  have z : s.heap.objs.size < h₁.objs.size := hn.lt
  exact wpAny_execs_nil (hq h₃ tk₃ dx ⟨fun b o hb e => k₃ b o hb (k b o e), hx₃, Nat.le_of_lt (Nat.lt_of_lt_of_le z dn), dne, hn₃⟩)
theorem err_made (T : ErrC K mg cn C fI) {s : Shared} {v : Value} (X : K.In s.heap) (hlim : s.heap.NoLimit) (hroom : A.depth + 1 < recursionLimit)
    (hq : ∀ h' tk e d, Made s.heap h' e C d v → R (.ok (.ret (.ref e))) { s with heap := h', toks := tk }) :
    codeAny (model prog w) A (.call (.ref C) ⟨[v], []⟩) R s := by
  obtain ⟨nm, q, N, bs, bm, sn, sub, ab, col, dd, k0, k1, k2, k3, k5, hC, hbm⟩ := T.cls
  obtain ⟨hp, g, dr, tk, os⟩ := s
  have k : ∀ b o, hp.get? b = some o → ((hp.push (kdv_tup [v])).push (excO C hp.objs.size)).get? b = some o := fun b o e => Heap.get?_push_of_some _ (Heap.get?_push_of_some _ e)
  have hget : ((hp.push (kdv_tup [v])).push (excO C hp.objs.size)).get? (hp.objs.size + 1) = some (excO C hp.objs.size) := by heap_get
  refine call_own F.excBase_Exception (fun X => excTail_contains X bm hbm) (X _ _ hC) (looks_findIn X T.iC) (fun self => bind_fn X self T.tC) (one_size v) ?_
  refine err_init (s := ⟨(hp.push (kdv_tup [v])).push (excO C hp.objs.size), g, dr, tk, os⟩) T (X.keeps k) (hlim.keeps k) hget ?_ fun h' tk' dx ⟨k', hx, dn, dne, hns⟩ => ?_
  · show A.depth + 1 < recursionLimit
    exact hroom
  · have old : ∀ b o, hp.get? b = some o → h'.get? b = some o := fun b o e => k' b o (Nat.ne_of_lt (Nat.lt_succ_of_lt (Heap.lt_size e))) (k b o e)
    have z : hp.objs.size + 1 + 1 ≤ dx := by
      first
        | (simpa only [Heap.size_push] using dn)
        | exact dn
        | (have q := dn; rw [Heap.size_push, Heap.size_push] at q; exact q)
    exact ⟨rfl, hq h' tk' (hp.objs.size + 1) dx ⟨old, Nat.le_succ _, ⟨_, _, hx, rfl, rfl, rfl, rfl⟩, Nat.le_trans (Nat.le_trans (Nat.le_succ _) (Nat.le_succ _)) z, dne, hns⟩⟩
end
end Xb
namespace Xb
open PySem PySem.Spec PyProof.Rows L2
theorem relO_at {v : V} {v' : Value} (r : RelV v v') (f : Str) : RelO (List.lookup f [(("at" : Str), v)]) (if f = "at" then some v' else none) := by
  by_cases hw : f = "at"
  · subst hw
    rw [if_pos rfl]
    have q : List.lookup ("at" : Str) [(("at" : Str), v)] = some v := by simp [List.lookup]
    rw [q]
    exact r
  · rw [if_neg hw]
    have qw : (f == ("at" : Str)) = false := by simpa using hw
    have q2 : List.lookup f [(("at" : Str), v)] = none := by simp [List.lookup, qw]
    rw [q2]
    trivial
section
variable {X : Cx} {cn : Str} {C fI : Addr}
/-- cn(e) -/
def tMk (C : Addr) (ta : TA) : L2.St → Hp → XK → Prop := fun σ H Q => ta σ H fun vs H1 => ∃ v, vs = [v] ∧ ∀ d, H1 d = none → Q (.ref C) (some d) (upd H1 d (.xd [(("at" : Str), v)]))
theorem pmk_at {a : Expr} {ta : TA} {p pos : Pos} {k : Nat} (T : ErrC X.K X.mg cn C fI) (hr : Room k X.A) (ha : PA X [a] ta) (hg : Gl X cn) (hdb : (cn == ("__debug__" : Str)) = false := by decide)
    (he : starEach (a :: []) X.env = (false, eval a X.env) :: starEach [] X.env := by rfl) (hpl : (backTo pos (starEach [] X.env)).any (·.1) = false := by rfl) :
    PMk X (.Call (.Name cn p) [a] [] pos) (tMk C ta) := by
  intro pins s σ H Q I h
  refine wpAny_Call_Name_kw (ld_glob I hg T.gC ?_ hdb)
  refine PySem.W.callWith_K (h₀ := X.base) I.ok.mod.kin T.kC (thn (ha.run pos pins s σ H _ I h) fun us s1 hh => ?_) he hpl
  obtain ⟨vs, H1, I1, r1, v, ev, q1⟩ := hh
  subst ev
  refine ⟨I1.kIn, ?_⟩
  cases r1 with
  | cons rv rn =>
    rename_i v' us'
    cases rn
    show wpAny _ _ (call (.ref C) [v']) _ _ _
    have hlim := I1.nolimit
    obtain ⟨hp, g, dr, tk, os⟩ := s1
    refine wpAny_call (err_made T I1.kIn hlim (by have := hr.dp; omega) fun h' tk' e d M => ?_)
    show MkP X pins σ Q (.ref e) ⟨h', g, dr, tk', os⟩
    obtain ⟨oe, fv, hoe, hc, hd, hdat, h1⟩ := M.obj
    have hns := M.ns
    obtain ⟨G', g1, g2⟩ := restrict h' fun b => decide (b ≠ e)
    have gk : ∀ b, b ≠ e → G'.get? b = h'.get? b := fun b hb => g1 b (decide_eq_true hb)
    have ge : G'.get? e = none := g2 e (by simp)
    have old : ∀ b o, hp.get? b = some o → G'.get? b = some o := fun b o q => (gk b (Nat.ne_of_lt (Nat.lt_of_lt_of_le (Heap.lt_size q) M.new))).trans (M.keep b o q)
    have ob : ObjOk X.prog X.w (upd H1 d (.xd [(("at" : Str), v)])) G' d (.xd [(("at" : Str), v)]) :=
      ⟨_, hns.at (fun o q => (gk d M.dne).trans q), fun f => relO_at rv f⟩
    have J : Inv X pins σ (upd H1 d (.xd [(("at" : Str), v)])) ⟨G', g, dr, tk', os⟩ := I1.laid (t' := tk') old M.dbig ob
    refine ⟨e, oe, fv, ⟨G', g, dr, tk', os⟩, _, .ref C, some d, rfl, J, fun b o q => ?_, ge, hoe, ⟨hc, hd⟩, hdat, h1, ?_, rfl, I1.bare, raises_own T.exC T.tyC, q1 d (I1.hok.fresh M.dbig)⟩
    · by_cases hb : b = e
      · have q' : G'.get? b = some o := q
        rw [hb, ge] at q'; cases q'
      · exact (gk b hb).symm.trans q
    · rw [upd_ne (Ne.symm M.dne)]
      exact I1.hok.fresh M.new
/-- raise cn(e) -/
def tRaise (C : Addr) (W : WX) (ta : TA) : TS := fun _ σ H => tMk C ta σ H fun cls d H' => W cls d σ H'
theorem ps_raiseAt {a : Expr} {ta : TA} {W : WX} {p pos pos2 : Pos} {k : Nat} (hc : X.calm = true) (T : ErrC X.K X.mg cn C fI) (hr : Room k X.A) (tk : Takes X W) (ha : PA X [a] ta) (hg : Gl X cn) (hdb : (cn == ("__debug__" : Str)) = false := by decide)
    (he : starEach (a :: []) X.env = (false, eval a X.env) :: starEach [] X.env := by rfl) (hpl : (backTo pos (starEach [] X.env)).any (·.1) = false := by rfl) :
    PS X (.Raise (some (.Call (.Name cn p) [a] [] pos)) none pos2) (tRaise C W ta) := ps_raise hc tk (pmk_at T hr ha hg hdb he hpl)
theorem ErrC.xf (T : ErrC X.K X.mg cn C fI) : XfC X.K C := ⟨T.ga, T.gg, T.exC, T.hdC⟩
end
end Xb

/-! t.index(x), t a tuple of flat values -/
namespace L2
open PySem PySem.Spec PyProof.Rows
section
variable {X : Cx}
def rTIndex (K : PySem.W.Frag) : V → List V → Hp → VK → Prop := fun x xs H Q => ∃ (a : Addr) (ys : List V) (y : V) (j : Nat) (z : V), x = V.ref a ∧ xs = [y] ∧ SqT K H a ys ∧ flatV y = true ∧ ys.all flatV = true ∧ ys[j]? = some z ∧ eqV z y = true ∧
  (∀ (m : Nat) (z' : V), m < j → ys[m]? = some z' → eqV z' y = false) ∧ Q (.int (j : Nat)) H
theorem mt_tindex : MtR X "tuple.index" (rTIndex X.K) := by
  intro pins s σ H x xs v us Q I rx rxs h
  obtain ⟨a, ys, y, j, z, rfl, rfl, hs, fy, fys, hz, hzj, hno, q⟩ := h
  cases rx
  cases rxs with
  | cons ry rt =>
    rename_i uy ut
    cases rt
    obtain ⟨its, rv, ⟨⟨cls, dd, data, sl⟩, ho, hc, n, hd⟩, hlen⟩ := I.tuple hs
    simp only at hc hd
    subst hc hd
    obtain ⟨u, hu, ru⟩ := rv.get hz
    obtain ⟨hjl, hje⟩ := List.getElem?_eq_some_iff.mp hu
    have hvl := rv.length
    have hj : j < its.toArray.size := by simpa using hjl
    refine call_meets PySem.F.slot_tuple_index ⟨_, ho, rfl⟩ PySem.F.entry_tuple_index (PySem.F.args_tuple_index_2 _ _)
      (TI.tuple_indexAt a its.toArray n dd sl uy (eqU y) j hj ?_ ?_) ⟨ho, fun u' hu' => mem_eqAt ry fy rv fys u' (by simpa using hu'), ?_⟩
    · have e1 : its.toArray[j] = u := by simpa using hje
      rw [e1, eqU_of ru (flat_at fys hz)]
      exact hzj
    · intro m hm hmj
      have hml : m < its.length := by simpa using hm
      have hmy : m < ys.length := by omega
      have hy' : ys[m]? = some ys[m] := List.getElem?_eq_getElem hmy
      obtain ⟨u2, hu2, ru2⟩ := rv.get hy'
      obtain ⟨_, hme⟩ := List.getElem?_eq_some_iff.mp hu2
      have e1 : its.toArray[m] = u2 := by simpa using hme
      rw [e1, eqU_of ru2 (flat_at fys hy')]
      exact hno m _ hmj hy'
    · exact ⟨.int (j : Nat), H, I.tok _, ⟨_, rfl⟩, q⟩
variable {o e : Expr} {es : List Expr} {to : TE} {t : TA} {name : Str} {apos cpos : Pos} {id : String} {r : V → List V → Hp → VK → Prop}
/-- a tuple of which it is known that it has no dict -/
def TupZ (H : Hp) (a : Addr) (ys : List V) : Prop := ∃ o : Obj, o.dict = none ∧ H a = some (.frz o (.tup ys))
theorem TupZ.sq {K : PySem.W.Frag} {H : Hp} {a : Addr} {ys : List V} (h : TupZ H a ys) : SqT K H a ys := let ⟨o, _, e⟩ := h; .inl (.inr ⟨o, e⟩)
def tTupF (t : TA) : TE := fun σ H Q => t σ H fun xs H1 => xs.length ≤ sizeLine ∧ ∀ p (o : Obj), H1 p = none → o.dict = none → Q (.ref p) (upd H1 p (.frz o (.tup xs)))
theorem pe_tupF {es : List Expr} {pos : Pos} {x1} (h : PA X es t) : PE X (.Tuple es x1 pos) (tTupF t) := by
  refine ⟨fun pins s σ H Q I hq => ?_⟩
  refine wpAny_Tuple_spliced (thn (h.run pos pins s σ H _ I hq) fun us s1 ⟨xs, H1, I1, r, z, q⟩ => ⟨by rw [← r.length]; exact z, ?_⟩)
  have hf : H1 s1.heap.objs.size = none := I1.hok.fresh (Nat.le_refl _)
  refine ⟨.ref s1.heap.objs.size, upd H1 s1.heap.objs.size (.frz _ (.tup xs)), I1.laid (t' := s1.toks) (fun b u e => Heap.get?_push_of_some _ e) (Nat.le_refl _) ⟨Heap.get?_push_size _ rfl, ?_⟩, rfl, q _ _ hf rfl⟩
  exact ⟨z, us, r, ⟨_, Heap.get?_push_size _ rfl, rfl, _, rfl⟩⟩
/-- t + u, new tuples without a dict -/
def rCatF (K : PySem.W.Frag) : R2 := fun x y H Q => ∃ a b xs ys, x = .ref a ∧ y = .ref b ∧ SqT K H a xs ∧ SqT K H b ys ∧ xs.length + ys.length ≤ sizeLine ∧
  (xs = [] → Q (.ref b) H) ∧ (xs ≠ [] → ys = [] → Q (.ref a) H) ∧ (xs ≠ [] → ys ≠ [] → ∀ p (o : Obj), H p = none → o.dict = none → Q (.ref p) (upd H p (.frz o (.tup (xs ++ ys)))))
theorem op_catF : OpR X (binaryOp .Add) (rCatF X.K) := by
  intro pins s σ H x y v u Q I rx ry h
  obtain ⟨a, b, xs, ys, rfl, rfl, ha, hb, hz, q0, q1, q2⟩ := h
  cases rx
  cases ry
  obtain ⟨its, r1, p1, _⟩ := I.tuple ha
  obtain ⟨its2, r2, p2, _⟩ := I.tuple hb
  by_cases hx : xs = []
  · subst hx
    cases r1
    exact cat_tup0 p1 p2 ⟨.ref b, H, I, rfl, q0 rfl⟩
  · refine HT.cat_tup p1 p2 (fun z => hx (r1.nil_iff.mp z)) (fun z => ⟨.ref a, H, I, rfl, q1 hx (r2.nil_iff.mp z)⟩) (fun z => ?_) (by rw [← r1.length, ← r2.length]; exact hz)
    refine ⟨.ref s.heap.objs.size, _, I.laid (t' := s.toks) (o := .frz _ (.tup (xs ++ ys))) (fun b ob q => Heap.get?_push_of_some _ q) (Nat.le_refl _) ⟨Heap.get?_push_size _ rfl, ?_⟩, rfl, q2 hx (fun w => z (r2.nil_iff.mpr w)) _ _ (I.hok.fresh (Nat.le_refl _)) rfl⟩
    exact ⟨by rw [List.length_append]; exact hz, _, r1.append r2, IsTup.new _ _⟩
/-- a method of a tuple -/
def tBMT (K : PySem.W.Frag) (r : V → List V → Hp → VK → Prop) (to : TE) (t : TA) : TE := fun σ H Q => to σ H fun x H1 => ∃ a ys, x = .ref a ∧ TupZ H1 a ys ∧ t σ H1 fun xs H2 => r x xs H2 Q
theorem pe_bmT (pa : PlainAttrs "tuple") (slot : Slot "tuple" name id) (hty : typeOf (.builtin id) = pure (.type "method_descriptor")) (hm : MtR X id r) (ho : PE X o to) (ha : PA X (e :: es) t)
    (hbase : attributeBase o name X.env (eval o X.env) = eval o X.env := by rfl)
    (hfew : ((backTo cpos (starEach (e :: es) X.env)).all (fun x => !x.1) && (backToKw cpos (keywordEach [] X.env)).all (fun x => x.1.isSome)
      && decide ((e :: es).length + ([] : List Keyword).length + (if ([] : List Keyword).isEmpty then 0 else 1) < 30)) = true := by rfl)
    (hline : (apos.endLine == cpos.line) = true := by rfl) (hs : starEach (e :: es) X.env = (false, eval e X.env) :: starEach es X.env := by rfl) (hplain : (backTo cpos (starEach es X.env)).any (·.1) = false := by rfl) :
    PE X (.Call (.Attribute o name apos) (e :: es) [] cpos) (tBMT X.K r to t) := by
  refine ⟨fun pins s σ H Q I h => ?_⟩
  refine wpAny_Call_method_late hbase hfew hline rfl (thn (ho.run pins s σ H _ I h) fun v s1 ⟨x, H1, I1, r1, a, ys, ex, hq, q1⟩ => ?_)
  subst ex
  obtain rfl : v = Value.ref a := r1
  obtain ⟨ob, hn, hfz⟩ := hq
  obtain ⟨ho1, hob⟩ := (show ObjOk X.prog X.w H1 s1.heap a (.frz ob (.tup ys)) from I1.hok a _ hfz)
  obtain ⟨_, its, rv, ⟨ob2, ho2, hc, _⟩⟩ := hob
  rw [ho1] at ho2
  obtain rfl := Option.some.inj ho2
  refine ⟨"tuple", id, pa, slot, hty, ⟨ob, ho1, hc⟩, fun b e => (by cases e; exact ⟨ob, ho1, hn⟩), ?_⟩
  have hA := ha.run cpos pins s1 σ H1 _ I1 q1
  rw [hs] at hA ⊢
  refine Calls.callWith_builtin (by show (false || (backTo cpos (starEach es X.env)).any (·.1)) = false; rw [hplain] <;> rfl) (Calls.evalArgs_plain ?_)
  exact thn hA fun us s2 ⟨vs, H2, I2, r2, q2⟩ => hm pins s2 σ H2 (.ref a) vs (.ref a) us Q I2 rfl r2 q2
end
end L2

/-! names and data that may be compared by == -/
namespace Da
open PySem PySem.Spec PyProof.Rows L2 Hb St Sq
def IsNm (x : Str) : Prop := 0 < x.length ∧ x.length ≤ 8 ∧ ∀ c ∈ x.cps.toList, 97 ≤ c ∧ c < 123
/-! ### names -/
theorem az_all : ((List.range 26).all fun k => Unicode.isAlpha (97 + k) && Unicode.isLower (97 + k) && !Unicode.isUpper (97 + k) && !Unicode.isTitle (97 + k)) = true := by decide +kernel
theorem az {c : Nat} (h : 97 ≤ c ∧ c < 123) : Unicode.isAlpha c = true ∧ Unicode.isLower c = true ∧ Unicode.isUpper c = false ∧ Unicode.isTitle c = false := by
  have q := List.all_eq_true.mp az_all (c - 97) (List.mem_range.mpr (by omega))
  rw [show 97 + (c - 97) = c by omega] at q
  simp only [Bool.and_eq_true, Bool.not_eq_true'] at q
  exact ⟨q.1.1.1, q.1.1.2, q.1.2, q.2⟩
theorem nm_all {x : Str} (h : IsNm x) {p : Nat → Bool} (k : ∀ c, 97 ≤ c ∧ c < 123 → p c = true) : x.cps.all p = true := by
  rw [Array.all_eq_true_iff_forall_mem]
  exact fun c hc => k c (h.2.2 c (Array.mem_toList_iff.mpr hc))
theorem nm_ascii {x : Str} (h : IsNm x) : Txt.isascii x = true := nm_all h fun c hc => by simp; omega
theorem nm_alpha {x : Str} (h : IsNm x) : Txt.isalpha x = true := by
  unfold Txt.isalpha
  rw [nm_all h fun c hc => (az hc).1, decide_eq_true h.1]; rfl
theorem nm_lower {x : Str} (h : IsNm x) : Txt.islower x = true := by
  unfold Txt.islower
  have h1 : x.cps.any Unicode.isLower = true := by
    rw [Array.any_eq_true]
    have hp : 0 < x.cps.size := h.1
    exact ⟨0, hp, (az (h.2.2 _ (by simp))).2.1⟩
  have h2 : (x.cps.any fun c => Unicode.isUpper c || Unicode.isTitle c) = false := by
    rw [Array.any_eq_false]
    intro i hi
    have := az (h.2.2 x.cps[i] (by simp))
    rw [this.2.2.1, this.2.2.2]; decide
  rw [h1, h2]; rfl
theorem eqv_int (a b : Int) : PyData.eqv (.int a) (.int b) = decide (a = b) := by
  show (a == b) = _
  by_cases h : a = b
  · subst h; simp
  · simp [h]
theorem eqv_str (a b : Str) : PyData.eqv (.str a) (.str b) = decide (a = b) := by
  show (a == b) = _
  by_cases h : a = b
  · subst h; simp
  · rw [decide_eq_false h]; exact beq_eq_false_iff_ne.mpr h
theorem eqvAll_map {α : Type} [DecidableEq α] {f : α → PyData} (h : ∀ a b, PyData.eqv (f a) (f b) = decide (a = b)) : ∀ xs ys : List α, PyData.eqvAll (xs.map f) (ys.map f) = decide (xs = ys)
  | [], [] => rfl
  | [], _ :: _ => rfl
  | _ :: _, [] => rfl
  | x :: xs, y :: ys => by
    show (PyData.eqv (f x) (f y) && PyData.eqvAll (xs.map f) (ys.map f)) = _
    rw [h, eqvAll_map h xs ys, ← Bool.decide_and]
    exact decide_eq_decide.mpr (by rw [List.cons.injEq])
/-- may be compared, no deeper than n -/
def Sh (n : Nat) (d : PyData) : Prop := PyData.canLay0 d = true ∧ PyData.depth d ≤ n
theorem sh_all {α : Type} {f : α → PyData} {n : Nat} : ∀ {l : List α}, (∀ a ∈ l, Sh n (f a)) → PyData.canLayAll0 (l.map f) = true ∧ PyData.depthAll (l.map f) ≤ n
  | [], _ => ⟨rfl, Nat.zero_le _⟩
  | a :: l, h => by
    obtain ⟨h1, h2⟩ := h a List.mem_cons_self
    obtain ⟨k1, k2⟩ := sh_all fun b hb => h b (List.mem_cons_of_mem a hb)
    refine ⟨?_, Nat.max_le.mpr ⟨h2, k2⟩⟩
    show (PyData.canLay0 (f a) && PyData.canLayAll0 (l.map f)) = true
    rw [h1, k1]; rfl
theorem sh_tup {α : Type} {f : α → PyData} {n : Nat} {l : List α} (h : ∀ a ∈ l, Sh n (f a)) : Sh (n + 1) (.tuple (l.map f)) := let ⟨a, b⟩ := sh_all h; ⟨a, Nat.succ_le_succ b⟩
theorem sh_lst {α : Type} {f : α → PyData} {n : Nat} {l : List α} (h : ∀ a ∈ l, Sh n (f a)) : Sh (n + 1) (.list (l.map f)) := let ⟨a, b⟩ := sh_all h; ⟨a, Nat.succ_le_succ b⟩
theorem Sh.ok {n : Nat} {d : PyData} (h : Sh n d) (hn : n ≤ 64) : SeqAt.shaped d = true := by
  unfold SeqAt.shaped
  rw [h.1, decide_eq_true (Nat.le_trans h.2 hn)]; rfl
theorem sh_int (n : Nat) (i : Int) : Sh n (.int i) := ⟨rfl, Nat.zero_le _⟩
theorem sh_str {n : Nat} {x : Str} (h : IsNm x) : Sh n (.str x) := ⟨nm_all h fun c hc => decide_eq_true (by omega), Nat.zero_le _⟩
section
variable {K : PySem.W.Frag} {H : Hp}
theorem dp_strs : ∀ xs : List Str, DpAll K H (xs.map V.str) (xs.map PyData.str)
  | [] => .nil
  | x :: xs => .cons (.str x) (dp_strs xs)
theorem dp_intl : ∀ xs : List Int, DpAll K H (xs.map V.int) (xs.map PyData.int)
  | [] => .nil
  | x :: xs => .cons (.int x) (dp_intl xs)
theorem dp_all {α : Type} {R : V → α → Prop} {f : α → PyData} (h : ∀ v a, R v a → Dp K H v (f a)) : ∀ {vs : List V} {ds : List α}, All2 R vs ds → DpAll K H vs (ds.map f)
  | _, _, .nil => .nil
  | _, _, .cons r t => .cons (h _ _ r) (dp_all h t)
end
end Da

/-! xs[::-1] of a tuple -/
namespace Rv
open PySem PySem.Spec PyProof.Rows L2 Hb Sq Ow
theorem places_rev (n : Nat) : Builtin.Slice.slicePlaces ((n : Int) - 1) (-1) (-1) = n := by
  unfold Builtin.Slice.slicePlaces
  rw [if_neg (by decide)]
  by_cases c : n = 0
  · subst c; decide
  · rw [if_pos (by omega)]
    have : ((n : Int) - 1 - -1 - 1) / - -1 + 1 = (n : Int) := by
      have : (- -1 : Int) = 1 := rfl
      rw [this, Int.ediv_one]; omega
    rw [this]; omega
theorem applied_rev {prog : Program} {w : World} {A : Around} {E : Value → Shared → Prop} {s : Shared} {sl : Addr} {vl vu vs : Value} {n : Nat} {Q : Int × Int × Nat → Shared → Prop}
    (hs : s.heap.IsSliceOf sl vl vu vs) (pl : IsPart vl none) (pu : IsPart vu none) (ps : IsPart vs (some (-1))) (h : Q ((n : Int) - 1, -1, n) s) : wpAny (model prog w) A (Builtin.Slice.sliceApplied (.ref sl) (pure (n : Int))) Q E s := by
  obtain ⟨os, hos, hcs, hds⟩ := id hs
  refine wpAny_bind (wpAny_bind (wpAny_field hos hds rfl (wpAny_bind (wpAny_field hos hds rfl (wpAny_bind (wpAny_field hos hds rfl (wpAny_pure (wpAny_bind (HT.slicePart_ ps ?_)))))))))
  show wpAny (model prog w) A (if ((-1 : Int) == 0) = true then _ else _) Q E s
  rw [if_neg (by decide)]
  refine wpAny_bind (HT.slicePart_ pl (wpAny_bind (HT.slicePart_ pu (wpAny_bind (wpAny_pure ?_)))))
  show wpAny (model prog w) A (pure ((n : Int) - 1, -1, Builtin.Slice.slicePlaces ((n : Int) - 1) (-1) (-1))) Q E s
  rw [places_rev]
  exact wpAny_pure h
theorem fm_map {α β : Type} (f : α → Option β) (g : α → β) : ∀ l : List α, (∀ k ∈ l, f k = some (g k)) → l.filterMap f = l.map g
  | [], _ => rfl
  | a :: l, h => by
    rw [List.filterMap_cons, h a List.mem_cons_self, List.map_cons, fm_map f g l fun k hk => h k (List.mem_cons_of_mem _ hk)]
theorem pick_rev (xs : Array Value) : (List.filterMap (fun k : Nat => xs[(((xs.size : Nat) : Int) - 1 + (k : Int) * -1).toNat]?) (List.range xs.size)).toArray = xs.toList.reverse.toArray := by
  congr 1
  apply List.ext_getElem?
  intro i
  have key : List.filterMap (fun k : Nat => xs[(((xs.size : Nat) : Int) - 1 + (k : Int) * -1).toNat]?) (List.range xs.size) = (List.range xs.size).map (fun k => xs.getD (xs.size - 1 - k) .none) := by
    refine fm_map _ _ _ fun k hk => ?_
    have hk := List.mem_range.mp hk
    have e : (((xs.size : Nat) : Int) - 1 + (k : Int) * -1).toNat = xs.size - 1 - k := by omega
    rw [e]
    have hlt : xs.size - 1 - k < xs.size := by omega
    rw [Array.getElem?_eq_getElem hlt]
    simp [Array.getD, hlt]
  rw [key, List.getElem?_map]
  by_cases hi : i < xs.size
  · rw [List.getElem?_range hi, List.getElem?_reverse (by rw [Array.length_toList]; exact hi)]
    have hlt : xs.size - 1 - i < xs.size := by omega
    rw [Array.length_toList, Array.getElem?_toList, Array.getElem?_eq_getElem hlt]
    simp [Array.getD, hlt]
  · rw [List.getElem?_eq_none (by rw [List.length_range]; omega), List.getElem?_eq_none (by rw [List.length_reverse, Array.length_toList]; omega)]
    rfl
theorem getItem_tuple_rev {prog : Program} {w : World} {A : Around} {E : Value → Shared → Prop} {s : Shared} {t sl : Addr} {items : Array Value} {vl vu vs : Value} {Q : Value → Shared → Prop}
    (ht : IsTup s.heap t items) (hs : s.heap.IsSliceOf sl vl vu vs) (pl : IsPart vl none) (pu : IsPart vu none) (ps : IsPart vs (some (-1)))
    (h : Q (.ref s.heap.objs.size) { s with heap := s.heap.push { cls := .type "tuple", data := .seq items.toList.reverse.toArray } }) (hsz : items.size ≤ sizeLine) :
    wpAny (model prog w) A (getItem (.ref t) (.ref sl)) Q E s := by
  obtain ⟨os, hos, hcs, hds⟩ := id hs
  have hTs : s.TypeIs (.ref sl) "slice" := ⟨os, hos, hcs⟩
  refine wpAny_holding (wpAny_bind (wpAny_sequenceKey ht.typeIs (by decide) (wpAny_bind (wpAny_callSpecial?_slot ht.typeIs PyProof.Rows.slot_tuple_getitem (wpAny_call_entry PyProof.Rows.slot_tuple_getitem ht.typeIs PyProof.Rows.entry_tuple_getitem ?_ (PyProof.Rows.args_tuple_getitem (.ref t) (.ref sl)))))))
  unfold Builtin.«tuple.__getitem__»
  rw [show slotArgs "__getitem__" 1 { pos := [Value.ref t, Value.ref sl] } = pure (Value.ref t, [Value.ref sl]) from rfl]
  refine wpAny_bind (wpAny_pure ?_)
  refine wpAny_bind (PyProof.Rows.tupleItemsOf_ ht (wpAny_bind (wpAny_typeOf hTs ?_)))
  rw [if_pos (by decide)]
  refine wpAny_bind (applied_rev hs pl pu ps ?_)
  show wpAny (model prog w) A.in1 (if (((items.size : Int) - 1 == 0 && (-1 : Int) == 1) && items.size == items.size) = true then _ else _) _ E s
  rw [if_neg (by simp)]
  show wpAny (model prog w) A.in1 (do let r ← Builtin.Tuple.tupleExact (List.filterMap (fun k : Nat => items[(((items.size : Nat) : Int) - 1 + (k : Int) * -1).toNat]?) (List.range items.size)).toArray; ret r) _ E s
  rw [pick_rev]
  refine wpAny_bind (wpAny_newObj_type (wpAny_pure ⟨.ref s.heap.objs.size, rfl, wpAny_pure h⟩) ?_)
  show items.toList.reverse.toArray.size ≤ sizeLine
  rw [List.size_toArray, List.length_reverse, Array.length_toList]
  exact hsz
def tRevT (K : PySem.W.Frag) (te : TE) : TE := fun σ H Q => te σ H fun x H1 => ∃ a xs, x = .ref a ∧ SqT K H1 a xs ∧ ∀ p, H1 p = none → Q (.ref p) (upd H1 p (.tup xs.reverse))
theorem pe_revT {X : Cx} {e st : Expr} {te ts : TE} {p3 pos : Pos} (K : PySem.W.Frag) (he : PE X e te) (hs : PE X st ts) (hN : ∀ σ H (Q : VK), Q (.int (-1)) H → ts σ H Q) (hK : X.K = K := by rfl) : PE X (.Subscript e (.Slice none none (some st) p3) pos) (tRevT K te) := by
  subst hK
  refine ⟨fun pins s σ H Q I h => Subscript_ (thn (he.run pins s σ H _ I h) fun v s1 ⟨x, H1, I1, r1, a, xs, ex, hx, q⟩ => ?_)⟩
  subst ex; cases r1
  refine wpAny_Slice (thn (po_none.run pins s1 σ H1 (fun o H2 => o = none ∧ H2 = H1) I1 ⟨rfl, rfl⟩) fun vl s2 ⟨l, H2, I2, pl, el, e2⟩ => ?_)
  subst el e2
  refine thn (po_none.run pins s2 σ H2 (fun o H3 => o = none ∧ H3 = H2) I2 ⟨rfl, rfl⟩) fun vu s3 ⟨u, H3, I3, pu, eu, e3⟩ => ?_
  subst eu e3
  refine thn ((po_some hs).run pins s3 σ H3 (fun o H4 => o = some (-1) ∧ H4 = H3) I3 (hN σ H3 _ ⟨-1, rfl, rfl, rfl⟩)) fun vs s4 ⟨o, H4, I4, ps, eo, e4⟩ => ?_
  subst eo e4
  have I5 : Inv X pins σ H4 { s4 with heap := s4.heap.push { cls := .type "slice", data := .fields #[vl, vu, vs] } } := I4.kept (t' := s4.toks) fun b ob q => Heap.get?_push_of_some _ q
  obtain ⟨its, r, ht, hz⟩ := I5.tuple hx
  have hlen := r.length
  show wpAny (model X.prog X.w) X.A (subscriptTail e (.Slice none none (some st) p3) (.ref a) (.ref s4.heap.objs.size)) (EP X pins σ Q) X.xe { s4 with heap := s4.heap.push { cls := .type "slice", data := .fields #[vl, vu, vs] } }
  refine tail_any (ops := [.ref a, .ref s4.heap.objs.size]) ht.typeIs (PyProof.Rows.slot_tuple_getitem.lookup) ?_ (by with_unfolding_all rfl)
  refine getItem_tuple_rev ht (Heap.IsSliceOf.new _ vl vu vs) pl pu ps ?_ (by rw [List.size_toArray]; omega)
  exact ⟨.ref _, _, I5.laid (t' := s4.toks) (o := .tup xs.reverse) (fun b ob q => Heap.get?_push_of_some _ q) (Nat.le_refl _) ⟨by rw [List.length_reverse]; exact hz, _, r.reverse, _, Heap.get?_push_size _ rfl, rfl, 0, rfl⟩, rfl, q _ (I5.hok.fresh (Nat.le_refl _))⟩
end Rv

namespace R0
open PySem PySem.Spec PyProof.Rows L2 Hb St Sq Ow En Zp RZ Rd Xb Da
local macro_rules | `(tactic| walk_at "sd") => `(tactic| (first
  | decide
  | exact ⟨by decide, by decide⟩
  | exact ⟨by decide, by decide, by decide⟩
  | exact Or.inl ⟨by decide, by decide⟩
  | exact Or.inr ⟨by decide, by decide⟩
  | exact divw (by decide) (by decide)
  | exact divw (by omega) (by omega)
  | exact Or.inl ⟨by omega, by omega⟩
  | exact Or.inr ⟨by omega, by omega⟩
  | (show (0 : Int) < _; omega)))
local macro_rules | `(tactic| walk_at "sq") => `(tactic| (first | exact SqT.of (by assumption) | exact SqL.of (by assumption) | exact SqL.of upd_same | assumption))
local macro_rules | `(tactic| walk_at "rd") => `(tactic| repeat (first
  | refine ⟨_, rfl, ?_⟩
  | refine ⟨_, _, rfl, rfl, (by walk_at "sd"), ?_⟩
  | refine ⟨_, _, rfl, rfl, ?_⟩
  | refine ⟨_, _, _, _, rfl, rfl, (by walk_at "sq"), rfl, ?_⟩
  | refine ⟨_, _, _, _, rfl, rfl, (by first | assumption | exact upd_same), rfl, ?_⟩
  | refine ⟨_, _, rfl, Or.inl (by walk_at "sq"), ?_⟩
  | refine ⟨_, _, rfl, ?_⟩
  | refine Or.inl ⟨_, rfl, ?_⟩
  | refine ⟨rfl, ?_⟩))
def top (i : Nat) : Stmt := PySem.Challenge.pw_curvebells_k62_circles_of_joins.main.body.getD i (.Pass ⟨0, 0, 0, 0⟩)
/-! ### deals -/
def DealN (H : Hp) (p l : Addr) (ns : List Int) (b : Int) : Prop := H p = some (.lst [.ref l, .int b]) ∧ H l = some (.lst (ns.map V.int)) ∧ p ≠ l ∧ ns.length ≤ 63 ∧ (∀ n ∈ ns, 0 ≤ n) ∧ 0 ≤ b ∧ b < 2 ^ 40
def DealAt (H : Hp) (p l : Addr) : Prop := ∃ ns b, DealN H p l ns b
def Kept2 (p l : Addr) (H H' : Hp) : Prop := ∀ b o, H b = some o → b ≠ p → b ≠ l → H' b = some o
theorem Kept2.refl (p l : Addr) (H : Hp) : Kept2 p l H H := fun _ _ e _ _ => e
theorem Kept2.trans {p l : Addr} {H H1 H2 : Hp} (a : Kept2 p l H H1) (b : Kept2 p l H1 H2) : Kept2 p l H H2 := fun c o e n m => b c o (a c o e n m) n m
theorem Kept2.same {p l : Addr} {H H' : Hp} (s : Same H H') : Kept2 p l H H' := fun b o e _ _ => s b o e
theorem Kept2.p {p l : Addr} {H : Hp} {o : HO} : Kept2 p l H (upd H p o) := fun b u e n _ => by rw [upd_ne n]; exact e
theorem Kept2.l {p l : Addr} {H : Hp} {o : HO} : Kept2 p l H (upd H l o) := fun b u e _ n => by rw [upd_ne n]; exact e
theorem DealAt.same {H H' : Hp} {p l : Addr} (h : DealAt H p l) (s : Same H H') : DealAt H' p l := let ⟨ns, b, a, c, r⟩ := h; ⟨ns, b, s _ _ a, s _ _ c, r⟩
theorem Kept2.fix {p l : Addr} {H H' : Hp} (k : Kept2 p l H H') (d : DealAt H p l) : Fix H H' := fun b o e n => by
  obtain ⟨ns, bb, h1, h2, _⟩ := d
  exact k b o e (fun z => n (by rw [z, h1] at e; exact .inl ⟨_, (Option.some.inj e).symm⟩)) fun z => n (by rw [z, h2] at e; exact .inl ⟨_, (Option.some.inj e).symm⟩)
section
variable {K : PySem.W.Frag} {H : Hp} {Q : VK}
theorem dp_ints : ∀ ns : List Int, DpAll K H (ns.map V.int) (ns.map PyData.int)
  | [] => .nil
  | n :: ns => .cons (.int n) (dp_ints ns)
theorem shp_ints (ns : List Int) : SeqAt.shaped (.list (ns.map PyData.int)) = true := (sh_lst (n := 0) fun x _ => sh_int 0 x).ok (by decide)
theorem eqv_nil (ns : List Int) : PyData.eqv (.list (ns.map PyData.int)) (.list []) = decide (ns = []) := eqvAll_map eqv_int ns []
theorem rd_neNil {l t : Addr} {ns : List Int} (hl : SqL K H l (ns.map V.int)) (ht : SqL K H t []) (q : Q (.bl (!decide (ns = []))) H) : rNeD K (.ref l) (.ref t) H Q :=
  ⟨_, _, .lst hl (dp_ints ns), .lst ht .nil, shp_ints ns, shp_ints [], by rw [eqv_nil]; exact q⟩
end
theorem abs_nn (i : Int) : 0 ≤ (if i < 0 then -i else i) := by
  by_cases h : i < 0
  · rw [if_pos h]; omega
  · rw [if_neg h]; omega
theorem cut_int (ns : List Int) (lo hi : Option Int) : ∃ ms : List Int, cutV (ns.map V.int) lo hi = ms.map V.int ∧ ms.length ≤ ns.length := by
  unfold cutV
  rw [List.length_map]
  refine ⟨_, by rw [List.map_drop.symm, List.map_take.symm], ?_⟩
  rw [List.length_take, List.length_drop]
  omega
section
variable {P : Program} {w : World} {K : PySem.W.Frag} {mg : Str → Option Value} {base : Heap}
theorem pe_revK {X : Cx} {e st : Expr} {te ts : TE} {p3 pos : Pos} (K : PySem.W.Frag) (he : PE X e te) (hs : PE X st ts) (hN : ∀ σ H (Q : VK), Q (.int (-1)) H → ts σ H Q) (hK : X.K = K := by rfl) : PE X (.Subscript e (.Slice none none (some st) p3) pos) (fun σ H Q => te σ H fun x H1 => ∃ a xs, x = .ref a ∧ SqL K H1 a xs ∧ ∀ p, H1 p = none → Q (.ref p) (upd H1 p (.lst xs.reverse))) := by
  subst hK
  exact pe_rev he hs hN
/-! ### _law_deal -/
abbrev s__law_deal : Stmt := top 36
theorem sc__law_deal : FnScope ["script", "base", "cell", "cells", "blend"] ["script", "base"] (defScope s__law_deal) := ⟨rfl, rfl, rfl, by decide +kernel, rfl, by decide +kernel, by decide +kernel⟩
def spDeal (K : PySem.W.Frag) : Sp := fun vs H Q _ => ∃ (a : Addr) (ns : List Int), vs = [.ref a, .int 0] ∧ SqL K H a (ns.map V.int) ∧ ns.length ≤ 63 ∧ ∀ p l H', H p = none → H l = none → Same H H' → DealAt H' p l → Q (.ref p) H'
theorem ok_deal {f : Addr} {fd : FuncData} (F : Fun K "_law_deal" "_law_deal" s__law_deal f fd) (n_abs : mg "abs" = none) (n_int : mg "int" = none) : FnOk P w K mg base CX0 1 f fd ["script", "base"] (spDeal K) := by
  refine F.ok sc__law_deal (fun vs H Q E h => ?_) (fun cdv A outer s H vs Q E hr h => ?_)
  · obtain ⟨_, _, rfl, _⟩ := h
    rfl
  · obtain ⟨a, ns, rfl, hs, hl, q⟩ := h
    refine ⟨_, (Evl.pss_cut (ps_setLc (i := 3) (own := [("cell", 2)]) (g := gName 2) (by rfl) sc__law_deal.nd rfl rfl (sw_true rfl rfl rfl (by decide +kernel)) (pi_seq (pe_slice (r := rSlL K) sl_list (pv 0) (po_some (pv 1)) (po_some pe_int))) (blkOk_by (N := ["script", "base", "cell", "cells", "blend"]) (sc := defScope s__law_deal) (by decide +kernel)) (fun _ _ _ _ _ => pg_name (i := 2) sc__law_deal.nd rfl (Or.inl rfl)) (fun _ _ _ _ _ => pts_nil) (fun _ _ _ _ _ => pe_callB call_abs (by rfl) n_abs (by decide +kernel) (pa_cons (pe_callTy call_int1 (by rfl) n_int (by decide +kernel) (pa_cons (pv 2) pa_nil)) pa_nil)))
    (pss_cons (ps_set (i := 4) sc__law_deal.nd rfl (Or.inl rfl) (pe_op op_add pe_int (pe_op op_mul pe_int (pv 1))))
    (Evl.pss_cut (ps_for PassesOwn.never rfl (pi_seq (pv 3)) (pg_name (i := 2) sc__law_deal.nd rfl (Or.inl rfl))
      (pss_one (ps_set (i := 4) sc__law_deal.nd rfl (Or.inl rfl) (pe_op op_mod (pe_callTy call_int1 (by rfl) n_int (by decide +kernel) (pa_cons (pe_op op_add (pe_op op_add (pe_op op_mul (pv 4) pe_int) (pe_op op_mod (pe_callTy call_int1 (by rfl) n_int (by decide +kernel) (pa_cons (pv 2) pa_nil)) pe_int)) pe_int) pa_nil)) pe_int))))
    (pss_one (ps_ret (pe_lst (pa_cons (pe_revK K (pe_lc (own := [("cell", 2)]) (g := gName 2) rfl sc__law_deal.nd (pi_seq (pv 3)) (blkOk_by (N := ["script", "base", "cell", "cells", "blend"]) (sc := defScope s__law_deal) (by decide +kernel)) (fun _ _ _ _ _ => pg_name (i := 2) sc__law_deal.nd rfl (Or.inl rfl)) (fun _ _ _ _ _ => pts_one (pt_cmpR op_ge (pv 2) (pe_op op_pow pe_int pe_int) (nomark _))) (fun _ _ _ _ _ => pv 2)) (pe_un un_neg pe_int) (fun _ _ _ q => ⟨1, rfl, q⟩)) (pa_cons (pv 4) pa_nil)))))))), ?_⟩
    refine ⟨fun σ H' => ∃ (c : Addr) (o : Option V) (ms : List Int), σ = [some (.ref a), some (.int 0), o, some (.ref c), none] ∧ Same H H' ∧ H' c = some (.lst (ms.map V.int)) ∧ ms.length ≤ 63 ∧ ∀ m ∈ ms, 0 ≤ m, ?_, ?_⟩
    · refine ⟨_, rfl, _, rfl, 0, rfl, 53, rfl, a, _, rfl, hs, fun p hp => ?_⟩
      have s1 := same_new hp (.lst (cutV (ns.map V.int) (some 0) (some 53)))
      obtain ⟨ms, em, lm⟩ := cut_int ns (some 0) (some 53)
      have e1 : (upd H p (.lst (cutV (ns.map V.int) (some 0) (some 53)))) p = some (.lst (ms.map V.int)) := by rw [upd_same, em]
      generalize upd H p (.lst (cutV (ns.map V.int) (some 0) (some 53))) = H1 at s1 e1 ⊢
      refine ⟨p, _, rfl, SqX.lst e1, fun J S W k D hD => ?_⟩
      refine lc_mf (ds := ms) W (fun _ => true) (fun _ y i => y = .int (if i < 0 then -i else i)) k hD (by rw [List.length_map]) (fun i x z H4 ex ez s4 m => ?_) (fun H4 ys s4 e al => ?_)
      · obtain rfl := at_map ex ez
        exact ⟨rfl, _, rfl, .inl ⟨z, rfl, z, rfl, mf_yes m hD (fun _ _ _ _ _ h => h) ez (by omega) (Same.refl _) rfl rfl⟩⟩
      · rw [Rd.filter_all] at al
        obtain rfl := al.map_eq fun _ _ h => h
        refine ⟨D, _, ms.map fun i => if i < 0 then -i else i, rfl, s1.trans s4, by rw [List.map_map]; exact e, by rw [List.length_map]; omega, fun m hm => ?_⟩
        obtain ⟨i, _, rfl⟩ := List.mem_map.mp hm
        exact abs_nn i
    rintro σ H1 ⟨c, o, ms, rfl, s1, e1, lm, pm⟩
    walk_at "rd"
    refine ⟨fun σ H' => ∃ o b, σ = [some (.ref a), some (.int 0), o, some (.ref c), some (.int b)] ∧ H' = H1 ∧ 0 ≤ b ∧ b < 2 ^ 40, ?_, ?_⟩
    · refine ⟨_, rfl, c, _, rfl, SqX.lst e1, fun J S W k => ?_⟩
      refine for_sq W (fun i σ H' => ∃ o b, σ = [some (.ref a), some (.int 0), o, some (.ref c), some (.int b)] ∧ H' = H1 ∧ 0 ≤ b ∧ b < 2 ^ 40) ⟨_, _, rfl, rfl, by decide, by decide⟩ (fun i σ H' p => ?_) ?_ ?_
      · obtain ⟨_, _, _, rfl, _⟩ := p
        exact k
      · rintro i σ H2 x ex ⟨o, b, rfl, rfl, b0, b1⟩
        obtain ⟨z, ez⟩ : ∃ z, ms[i]? = some z := ⟨_, List.getElem?_eq_getElem (by have := (List.getElem?_eq_some_iff.mp ex).1; rwa [List.length_map] at this)⟩
        obtain rfl := at_map ex ez
        walk_at "rd"
        exact ⟨Int.emod_nonneg _ (by decide), by omega⟩
      · rintro σ H2 ⟨o, b, rfl, rfl, b0, b1⟩
        exact ⟨o, b, rfl, rfl, b0, b1⟩
    rintro σ H2 ⟨o2, b, rfl, rfl, b0, b1⟩
    refine ⟨_, rfl, c, _, rfl, SqX.lst e1, fun J S W k D hD => ?_⟩
    refine lc_mf (ds := ms) W (fun m => decide ((10 ^ 18 : Int) ≤ m)) (fun _ y i => y = .int i) k hD (by rw [List.length_map]) (fun i x z H4 ex ez s4 m => ?_) (fun H4 ys s4 e al => ?_)
    · obtain rfl := at_map ex ez
      refine ⟨rfl, _, rfl, _, _, rfl, rfl, ⟨by decide, by decide, by decide⟩, _, _, rfl, rfl, _, rfl, ?_⟩
      refine iteD (fun c => ⟨_, rfl, mf_yes m hD (fun _ _ _ _ _ h => h) ez (by omega) (Same.refl _) (decide_eq_true c) rfl⟩) fun c => mf_no m (fun _ _ _ _ _ h => h) ez (Same.refl _) (decide_eq_false c)
    · obtain rfl := al.map_eq fun _ _ h => h
      refine ⟨D, _, rfl, SqL.of e, fun p hp => ?_⟩
      have s5 := same_new hp (.lst ((ms.filter fun m => decide ((10 ^ 18 : Int) ≤ m)).map V.int).reverse)
      refine ⟨_, rfl, by show 2 ≤ sizeLine; decide, fun d hd => ?_⟩
      have s6 := same_new hd (.lst [.ref p, .int b])
      have s26 := ((s1.trans s4).trans s5).trans s6
      have hpH : H p = none := by
        cases h : H p with
        | none => rfl
        | some o => exact absurd rfl (ne_of_none ((s1.trans s4) _ _ h) hp)
      have hdH : H d = none := by
        cases h : H d with
        | none => rfl
        | some o => exact absurd rfl (ne_of_none (((s1.trans s4).trans s5) _ _ h) hd)
      refine q d p _ hdH hpH s26 ⟨(ms.filter fun m => decide ((10 ^ 18 : Int) ≤ m)).reverse, b, upd_same, ?_, (ne_of_none (upd_same (H := H4) (o := .lst ((ms.filter fun m => decide ((10 ^ 18 : Int) ≤ m)).map V.int).reverse)) hd).symm, ?_, fun n hn => ?_, b0, b1⟩
      · rw [s6 _ _ (show upd H4 p (.lst ((ms.filter fun m => decide ((10 ^ 18 : Int) ≤ m)).map V.int).reverse) p = _ from upd_same), List.map_reverse]
      · rw [List.length_reverse]
        exact Nat.le_trans (List.length_filter_le _ _) lm
      · exact pm n (List.mem_filter.mp (List.mem_reverse.mp hn)).1
theorem last_at (ms : List Int) (z : Int) : (ms.map V.int ++ [V.int z])[(ms.map V.int ++ [V.int z]).length - 1]? = some (V.int z) := by
  rw [List.length_append, List.length_singleton, Nat.add_sub_cancel, List.getElem?_append_right (Nat.le_refl _), Nat.sub_self]; rfl
/-! ### _law_draw -/
abbrev s__law_draw : Stmt := top 37
theorem sc__law_draw : FnScope ["deal", "bound", "rest"] ["deal", "bound"] (defScope s__law_draw) := ⟨rfl, rfl, rfl, by decide +kernel, rfl, by decide +kernel, by decide +kernel⟩
def spDraw : Sp := fun vs H Q _ => ∃ (p l : Addr) (many : Int), vs = [.ref p, .int many] ∧ (1 ≤ many ∧ many < 2 ^ 30) ∧ DealAt H p l ∧ ∀ d H', 0 ≤ d → d < many → Kept2 p l H H' → DealAt H' p l → Q (.int d) H'
theorem ok_draw {f : Addr} {fd : FuncData} (F : Fun K "_law_draw" "_law_draw" s__law_draw f fd) (n_int : mg "int" = none) : FnOk P w K mg base CX0 1 f fd ["deal", "bound"] spDraw := by
  refine F.ok sc__law_draw (fun vs H Q E h => ?_) (fun cdv A outer s H vs Q E hr h => ?_)
  · obtain ⟨_, _, _, rfl, _⟩ := h
    rfl
  · obtain ⟨p, l, many, rfl, hm, ⟨ns0, b, hd0⟩, q⟩ := h
    refine ⟨_, (Evl.pss_cut (ps_while PassesOwn.never (PW.pt (pw_and (pt_cmpR (op_neD hr.units) (pe_ix ix_list (pv 0) pe_int (fun _ _ => rfl)) (pe_lst pa_nil) (nomark _)) (pw_and1 (pt_cmpR op_eq (pe_ix ix_list (pe_ix ix_list (pv 0) pe_int (fun _ _ => rfl)) (pe_un un_neg pe_int) (fun _ _ => rfl)) pe_int (nomark _)))))
      (pss_one (ps_expr (pe_bm0 PySem.F.plainAttrs_list PySem.F.slot_list_pop PySem.F.type_list_pop mt_pop (pe_ix ix_list (pv 0) pe_int (fun _ _ => rfl))))))
    (Evl.pss_cut (ps_if (pt_cmpR (op_neD hr.units) (pe_ix ix_list (pv 0) pe_int (fun _ _ => rfl)) (pe_lst pa_nil) (nomark _)) (pss_cons (ps_set (i := 2) sc__law_draw.nd rfl (Or.inl rfl) (pe_bm0 PySem.F.plainAttrs_list PySem.F.slot_list_pop PySem.F.type_list_pop mt_pop (pe_ix ix_list (pv 0) pe_int (fun _ _ => rfl))))
    (pss_cons (ps_expr (pe_bm PySem.F.plainAttrs_list PySem.F.slot_list_append PySem.F.type_list_append mt_append (pe_ix ix_list (pv 0) pe_int (fun _ _ => rfl)) (pa_cons (pe_op op_fdivW (pv 2) (pv 1)) pa_nil)))
    (pss_one (ps_ret (pe_op op_mod (pe_callTy call_int1 (by rfl) n_int (by decide +kernel) (pa_cons (pv 2) pa_nil)) (pv 1)))))) pss_nil)
    (pss_cons (ps_asg (pe_op op_mod (pe_callTy call_int1 (by rfl) n_int (by decide +kernel) (pa_cons (pe_op op_add (pe_op op_mul (pe_ix ix_list (pv 0) pe_int (fun _ _ => rfl)) pe_int) pe_int) pa_nil)) pe_int) (pg_sub (pv 0) pe_int set_list))
    (pss_one (ps_ret (pe_op op_mod (pe_callTy call_int1 (by rfl) n_int (by decide +kernel) (pa_cons (pe_op op_fdivW (pe_ix ix_list (pv 0) pe_int (fun _ _ => rfl)) pe_int) pa_nil)) (pv 1))))))), ?_⟩
    refine ⟨fun σ H' => σ = [some (.ref p), some (.int many), none] ∧ Kept2 p l H H' ∧ ∃ ns, DealN H' p l ns b, ?_, ?_⟩
    · refine ⟨fun m σ H' => σ = [some (.ref p), some (.int many), none] ∧ Kept2 p l H H' ∧ ∃ ns, ns.length = m ∧ DealN H' p l ns b, ⟨_, rfl, Kept2.refl _ _ _, ns0, rfl, hd0⟩, ?_⟩
      rintro m σ H1 ⟨rfl, k1, ns, lm, hp, hl, npl, ln, pn, b0, b1⟩
      refine ⟨_, rfl, p, _, _, _, rfl, rfl, SqL.of hp, at0, by show 0 ≤ sizeLine; decide, fun t ht => ?_⟩
      have s2 := same_new ht (.lst [])
      have hp2 := s2 _ _ hp
      have hl2 := s2 _ _ hl
      refine rd_neNil (SqL.of hl2) (SqL.of upd_same) ?_
      have k2 := k1.trans (Kept2.same (p := p) (l := l) s2)
      refine ⟨_, rfl, ?_⟩
      rcases List.eq_nil_or_concat ns with e | ⟨ms, z, e⟩
      · subst e
        exact iteF ⟨rfl, k2, [], hp2, hl2, npl, ln, pn, b0, b1⟩
      rw [List.concat_eq_append] at e
      subst e
      rw [decide_eq_false (by simp)]
      have em : (ms ++ [z]).map V.int = ms.map V.int ++ [V.int z] := by rw [List.map_append]; rfl
      rw [em] at hl2
      generalize upd H1 t (.lst []) = H2 at s2 hp2 hl2 k2 ⊢
      refine iteT ⟨_, rfl, p, _, _, _, rfl, rfl, SqL.of hp2, at0, 1, rfl, l, _, _, _, rfl, rfl, SqL.of hl2, at_last, rfl, _, rfl, ?_⟩
      refine iteD (fun c => ?_) fun c => ⟨rfl, k2, ms ++ [z], hp2, em ▸ hl2, npl, ln, pn, b0, b1⟩
      refine ⟨fun σ H' => σ = [some (.ref p), some (.int many), none] ∧ Kept2 p l H H' ∧ ∃ ns, ns.length < m ∧ DealN H' p l ns b, fun σ' H' ⟨e1, e2, ns, e3, e4⟩ => ⟨ns.length, e3, e1, e2, ns, rfl, e4⟩, ?_⟩
      refine ⟨_, rfl, p, _, _, _, rfl, rfl, SqL.of hp2, at0, .inl ⟨rfl, _, SqL.of hl2⟩, l, _, .int z, rfl, rfl, hl2, last_at _ _, rfl, k2.trans Kept2.l, ms, by rw [← lm]; simp, ?_⟩
      rw [List.dropLast_concat]
      exact ⟨by rw [upd_ne npl]; exact hp2, upd_same, npl, by simp at ln; omega, fun n hn => pn n (List.mem_append_left _ hn), b0, b1⟩
    rintro σ H1 ⟨rfl, k1, ns, hp, hl, npl, ln, pn, b0, b1⟩
    have lp := npl.symm
    refine ⟨fun σ H' => σ = [some (.ref p), some (.int many), none] ∧ Kept2 p l H H' ∧ ∃ ns, DealN H' p l ns b, ?_, ?_⟩
    · refine ⟨_, rfl, p, _, _, _, rfl, rfl, SqL.of hp, at0, by show 0 ≤ sizeLine; decide, fun t ht => ?_⟩
      have s2 := same_new ht (.lst [])
      have hp2 := s2 _ _ hp
      have hl2 := s2 _ _ hl
      refine rd_neNil (SqL.of hl2) (SqL.of upd_same) ?_
      have k2 := k1.trans (Kept2.same (p := p) (l := l) s2)
      refine ⟨_, rfl, ?_⟩
      rcases List.eq_nil_or_concat ns with e | ⟨ms, z, e⟩
      · subst e
        exact iteF ⟨rfl, k2, [], hp2, hl2, npl, ln, pn, b0, b1⟩
      rw [List.concat_eq_append] at e
      subst e
      rw [decide_eq_false (by simp)]
      have em : (ms ++ [z]).map V.int = ms.map V.int ++ [V.int z] := by rw [List.map_append]; rfl
      rw [em] at hl2
      generalize upd H1 t (.lst []) = H2 at s2 hp2 hl2 k2 ⊢
      have z0 : 0 ≤ z := pn z (by simp)
      refine iteT ⟨_, rfl, p, _, _, _, rfl, rfl, SqL.of hp2, at0, .inl ⟨rfl, _, SqL.of hl2⟩, l, _, .int z, rfl, rfl, hl2, last_at _ _, ?_⟩
      rw [List.dropLast_concat]
      have hp3 : upd H2 l (.lst (ms.map V.int)) p = some (.lst [.ref l, .int b]) := by rw [upd_ne npl]; exact hp2
      have hl3 : upd H2 l (.lst (ms.map V.int)) l = some (.lst (ms.map V.int)) := upd_same
      have k3 := k2.trans (Kept2.l (p := p) (l := l) (H := H2) (o := .lst (ms.map V.int)))
      generalize upd H2 l (.lst (ms.map V.int)) = H3 at hp3 hl3 k3 ⊢
      have lms : ms.length + 1 ≤ 63 := by simpa using ln
      refine ⟨_, rfl, p, _, _, _, rfl, rfl, SqL.of hp3, at0, .inl ⟨rfl, _, SqL.of hl3⟩, _, rfl, _, rfl, _, _, rfl, rfl, divw (by omega) (by omega), l, _, _, rfl, rfl, hl3, by rw [List.length_map, sizeLine_eq]; omega, ?_⟩
      refine ⟨_, rfl, .inl ⟨_, rfl, _, rfl, _, _, rfl, rfl, (by show (0 : Int) < _; omega), ?_⟩⟩
      refine q _ _ (Int.emod_nonneg _ (by omega)) (Int.emod_lt_of_pos _ (by omega)) (k3.trans Kept2.l) ⟨ms ++ [z / many], b, by rw [upd_ne npl]; exact hp3, by rw [upd_same, List.map_append]; rfl, npl, by simp; omega, fun n hn => ?_, b0, b1⟩
      rcases List.mem_append.mp hn with h | h
      · exact pn n (List.mem_append_left _ h)
      · rw [List.mem_singleton.mp h]; exact Int.ediv_nonneg z0 (by omega)
    rintro σ H2 ⟨rfl, k2, ns2, hp2, hl2, _, ln2, pn2, b0, b1⟩
    refine ⟨_, rfl, p, _, _, _, rfl, rfl, SqL.of hp2, at1, ?_⟩
    walk_at "rd"
    exact q _ _ (Int.emod_nonneg _ (by omega)) (Int.emod_lt_of_pos _ (by omega)) (k2.trans Kept2.p) ⟨ns2, (b * 48271 + 59) % 2147483647, upd_same, by rw [upd_ne lp]; exact hl2, npl, ln2, pn2, Int.emod_nonneg _ (by decide), by omega⟩
end
end R0

namespace R0
open PySem PySem.Spec PyProof.Rows L2 Hb St Sq Ow En Zp RZ Rd Xb Da
section
variable {P : Program} {w : World} {K : PySem.W.Frag} {mg : Str → Option Value} {base : Heap}
/-! ### _law_pick -/
abbrev s__law_pick : Stmt := top 38
theorem sc__law_pick : FnScope ["deal", "some"] ["deal", "some"] (defScope s__law_pick) := ⟨rfl, rfl, rfl, by decide +kernel, rfl, by decide +kernel, by decide +kernel⟩
def spPick (K : PySem.W.Frag) : Sp := fun vs H Q _ => ∃ (p l s : Addr) (xs : List V), vs = [.ref p, .ref s] ∧ DealAt H p l ∧ (∀ H', Kept2 p l H H' → SqX K H' s xs) ∧ (1 ≤ xs.length ∧ xs.length ≤ 1000) ∧ ∀ x H', x ∈ xs → Kept2 p l H H' → DealAt H' p l → Q x H'
theorem ok_pick {f : Addr} {fd : FuncData} (F : Fun K "_law_pick" "_law_pick" s__law_pick f fd) (C__law_draw : Cl P w K mg base "_law_draw" ["deal", "bound"] [] 1 spDraw) (n_len : mg "len" = none) : FnOk P w K mg base CX0 2 f fd ["deal", "some"] (spPick K) := by
  refine F.ok sc__law_pick (fun vs H Q E h => ?_) (fun cdv A outer s H vs Q E hr h => ?_)
  · obtain ⟨_, _, _, _, rfl, _⟩ := h
    rfl
  · obtain ⟨p, l, s, xs, rfl, hd, hs, hn, q⟩ := h
    refine ⟨_, (pss_one (ps_ret (pe_ix (r := rIx K) ix_seq (pv 1) (pe_use C__law_draw (hr.mono (by decide)) rfl (pa_cons (pv 0) (pa_cons (pe_callB call_len_seq (by rfl) n_len PySem.boot_len (pa_cons (pv 1) pa_nil)) pa_nil))) (fun _ _ => rfl)))), ?_⟩
    have len : ∃ p' ys, [V.ref s] = [V.ref p'] ∧ (SqL K H p' ys ∨ SqT K H p' ys) ∧ ys = xs := ⟨s, xs, rfl, hs H (Kept2.refl _ _ _), rfl⟩
    refine ⟨_, rfl, _, rfl, _, rfl, s, xs, rfl, hs H (Kept2.refl _ _ _), p, l, _, rfl, ?_, hd, fun d H' d0 d1 k b => ?_⟩
    · omega
    · have hdn : d.toNat < xs.length := by omega
      have e : d = ((d.toNat : Nat) : Int) := by omega
      obtain ⟨x, hx⟩ : ∃ x, xs[d.toNat]? = some x := ⟨_, List.getElem?_eq_getElem hdn⟩
      have hat : atI xs d = some x := by rw [e]; exact at_nat hx
      have qq := q _ H' (List.mem_of_getElem? hx) k b
      rcases hs H' k with hs | hs
      · exact .inl ⟨s, _, d, x, rfl, rfl, hs, hat, qq⟩
      · exact .inr (.inl ⟨s, _, d, x, rfl, rfl, hs, hat, qq⟩)
end
end R0


namespace Kw
open PySem PySem.Spec PyProof.Rows L2 Hb Ow
/-- repr of a bool -/
theorem call_repr_bl {X : Cx} : CallR X (.builtin "repr") (fun xs H Q => ∃ b : Bool, xs = [.bl b] ∧ Q (.str (if b then "True" else "False")) H) := by
  intro pins s σ H xs us Q I r h
  obtain ⟨b, rfl, q⟩ := h
  obtain ⟨u, rfl, rx⟩ := vals1 r
  obtain rfl : u = Value.bool b := rx
  exact PySem.P.repr_of_bool ⟨.str _, H, I.tok _, ⟨_, rfl⟩, q⟩
theorem vals_app {a b : List V} {x y : List Value} (h : Vals a x) (k : Vals b y) : Vals (a ++ b) (x ++ y) := by
  induction h with
  | nil => exact k
  | cons r _ ih => exact .cons r ih
theorem vals_rev {a : List V} {x : List Value} (h : Vals a x) : Vals a.reverse x.reverse := by
  induction h with
  | nil => exact .nil
  | cons r _ ih => rw [List.reverse_cons, List.reverse_cons]; exact vals_app ih (.cons r .nil)
/-- a def without defaults, all parameters by name, from the last one to the first -/
theorem kb_rev {K : PySem.W.Frag} {x qual : Str} {st : Stmt} {f : Addr} {fd : FuncData} {ps ks : List Str} (F : Fun K x qual st f fd)
    (h : ∀ (kV doc pm : Value) (an : Option Addr) (cdv ct : Value) (ws : List Value), ws.length = ks.length → bindArgs (PySem.W.fnOf x qual (defArgs st) (defBody st) (defScope st) .none kV doc pm an cdv ct) ⟨[], ks.zip ws⟩ = pure (ps.zip ws.reverse)) : KBn K fd ps 0 ks (fun _ ws => ws.reverse) (fun _ zs => zs.reverse) := by
  obtain ⟨oc, od, kV, doc, pm, an, cdv, ct, osl, rfl, lk, hcd⟩ := F.ex
  refine ⟨fun s us ws X l1 l2 => ?_, fun r1 r2 => vals_rev r2⟩
  obtain rfl := List.eq_nil_of_length_eq_zero l1
  exact .of_eq (h kV doc pm an cdv ct ws l2)
end Kw

namespace R0
open PySem PySem.Spec PyProof.Rows L2 Hb St Sq Ow En Zp RZ Rd Xb Da
/-! ### any values, by their data -/
def tyD : PyData → Value
  | .none => .type "NoneType"
  | .bool _ => .type "bool"
  | .int _ => .type "int"
  | .str _ => .type "str"
  | .list _ => .type "list"
  | .tuple _ => .type "tuple"
  | _ => .type "dict"
theorem ty_lst {K : PySem.W.Frag} {H : Hp} {a : Addr} {xs : List V} (h : SqL K H a xs) : TyX K H (.ref a) (.type "list") := by
  rcases h with (e | ⟨o, e⟩) | ⟨o, its, n, e, c, _⟩
  · exact .base (.lst e)
  · exact .base (.frz e)
  · exact .kList e c
theorem ty_tup {K : PySem.W.Frag} {H : Hp} {a : Addr} {xs : List V} (h : SqT K H a xs) : TyX K H (.ref a) (.type "tuple") := by
  rcases h with (e | ⟨o, e⟩) | ⟨o, its, n, e, c, _⟩
  · exact .base (.tup e)
  · exact .fTuple e
  · exact .kTuple e c
theorem ty_dp {K : PySem.W.Frag} {H : Hp} {v : V} {d : PyData} (h : Dp K H v d) : TyX K H v (tyD d) := by
  cases h with
  | non => exact .base .non
  | bl b => exact .base (.bl b)
  | int i => exact .base (.int i)
  | str x => exact .base (.str x)
  | lst h _ => exact ty_lst h
  | tup h _ => exact ty_tup h
def isStrD : PyData → Bool
  | .str _ => true
  | _ => false
def isTupD : PyData → Bool
  | .tuple _ => true
  | _ => false
theorem kit_str {K : PySem.W.Frag} {H : Hp} {v : V} {d : PyData} (h : Dp K H v d) : PySem.W.kitOne K (tyD d) (.type "str") = some (isStrD d) := by
  cases h with
  | non => exact kit_ty (a := "NoneType") (b := "str") (r := false) (by decide +kernel)
  | bl b => exact kit_ty (a := "bool") (b := "str") (r := false) (by decide +kernel)
  | int i => exact kit_ty (a := "int") (b := "str") (r := false) (by decide +kernel)
  | str x => exact kit_ty (a := "str") (b := "str") (r := true) (by decide +kernel)
  | lst _ _ => exact kit_ty (a := "list") (b := "str") (r := false) (by decide +kernel)
  | tup _ _ => exact kit_ty (a := "tuple") (b := "str") (r := false) (by decide +kernel)
theorem kit_tup {K : PySem.W.Frag} {H : Hp} {v : V} {d : PyData} (h : Dp K H v d) : PySem.W.kitOne K (tyD d) (.type "tuple") = some (isTupD d) := by
  cases h with
  | non => exact kit_ty (a := "NoneType") (b := "tuple") (r := false) (by decide +kernel)
  | bl b => exact kit_ty (a := "bool") (b := "tuple") (r := false) (by decide +kernel)
  | int i => exact kit_ty (a := "int") (b := "tuple") (r := false) (by decide +kernel)
  | str x => exact kit_ty (a := "str") (b := "tuple") (r := false) (by decide +kernel)
  | lst _ _ => exact kit_ty (a := "list") (b := "tuple") (r := false) (by decide +kernel)
  | tup _ _ => exact kit_ty (a := "tuple") (b := "tuple") (r := true) (by decide +kernel)
theorem dpa_all {K : PySem.W.Frag} {H : Hp} : ∀ {xs : List V} {ds : List PyData}, DpAll K H xs ds → All2 (Dp K H) xs ds
  | _, _, .nil => .nil
  | _, _, .cons h t => .cons h (dpa_all t)
mutual
theorem dp_same {K : PySem.W.Frag} {H H' : Hp} (s : Same H H') : ∀ {d : PyData} {v : V}, Dp K H v d → Dp K H' v d
  | _, _, .non => .non
  | _, _, .bl b => .bl b
  | _, _, .int i => .int i
  | _, _, .str x => .str x
  | _, _, .lst h a => .lst (lstSame s h) (dpa_same s a)
  | _, _, .tup h a => .tup (tupFix (Fix.of s) h) (dpa_same s a)
theorem dpa_same {K : PySem.W.Frag} {H H' : Hp} (s : Same H H') : ∀ {ds : List PyData} {xs : List V}, DpAll K H xs ds → DpAll K H' xs ds
  | _, _, .nil => .nil
  | _, _, .cons h t => .cons (dp_same s h) (dpa_same s t)
end
/-- whether a text is a name -/
def nmB (x : Str) : Bool := decide (x.length ≤ 8) && (Txt.isascii x && (Txt.isalpha x && Txt.islower x))
def nmD : PyData → Bool
  | .str x => nmB x
  | _ => false
/-- texts that are short -/
def ShortD : PyData → Prop
  | .str x => x.length ≤ 1000
  | _ => True
theorem inV_strs (x : Str) (ns : List Str) : inV (.str x) (ns.map V.str) = decide (x ∈ ns) := by
  unfold inV
  rw [List.any_map]
  induction ns with
  | nil => simp
  | cons y r ih =>
    rw [List.any_cons, ih]
    show (eqV (.str y) (.str x) || decide (x ∈ r)) = _
    have e : eqV (.str y) (.str x) = decide (x = y) := by
      show decide (_ = _) = _
      exact decide_eq_decide.mpr ⟨fun h => h.symm, fun h => h.symm⟩
    rw [e]
    simp [List.mem_cons]
theorem flat_strs (ns : List Str) : (ns.map V.str).all flatV = true := by rw [List.all_map]; exact List.all_eq_true.mpr fun _ _ => rfl
theorem in_strs {K : PySem.W.Frag} {H : Hp} {a : Addr} {ns : List Str} {x : Str} {Q : VK} (h : SqX K H a (ns.map V.str)) (q : Q (.bl (decide (x ∈ ns))) H) : rIn K false (.str x) (.ref a) H Q :=
  ⟨a, _, rfl, h, rfl, flat_strs ns, by rw [inV_strs]; exact q⟩
section
variable {P : Program} {w : World} {K : PySem.W.Frag} {mg : Str → Option Value} {base : Heap}
/-! ### is_name -/
abbrev s_is_name : Stmt := top 12
theorem sc_is_name : FnScope ["value"] ["value"] (defScope s_is_name) := ⟨rfl, rfl, rfl, by decide +kernel, rfl, by decide +kernel, by decide +kernel⟩
def spIsName (K : PySem.W.Frag) : Sp := fun vs H Q _ => ∃ (v : V) (d : PyData), vs = [v] ∧ Dp K H v d ∧ ShortD d ∧ Q (.bl (nmD d)) H
theorem ok_is_name {f : Addr} {fd : FuncData} (F : Fun K "is_name" "is_name" s_is_name f fd) {tk : Tok} (g_LETTERS : mg "LETTERS" = some (.int 8 tk)) (n_isinstance : mg "isinstance" = none) (n_len : mg "len" = none) (n_str : mg "str" = none) : FnOk P w K mg base CX0 1 f fd ["value"] (spIsName K) := by
  refine F.ok sc_is_name (fun vs H Q E h => ?_) (fun cdv A outer s H vs Q E hr h => ?_)
  · obtain ⟨_, _, rfl, _⟩ := h
    rfl
  · obtain ⟨v, d, rfl, hv, sh, q⟩ := h
    refine ⟨_, (Evl.pss_cut (ps_if (PW.pt (pw_or (pt_not (pt_val (pe_callB call_isi (by rfl) n_isinstance (by decide +kernel) (pa_cons (pv 0) (pa_cons (pe_bltn (v := .ty "str") (by rfl) n_str (by decide +kernel) rfl) pa_nil))))) (pw_or1 (pt_cmpR op_gt (pe_callB call_len_str (by rfl) n_len PySem.boot_len (pa_cons (pv 0) pa_nil)) (pe_glob (v := .int 8) rfl g_LETTERS ⟨_, rfl⟩) (nomark _))))) (pss_one (ps_ret pe_bl)) pss_nil)
    (pss_one (ps_ret (pe_and (pe_bm0 PySem.F.plainAttrs_str PySem.F.slot_str_isascii PySem.F.type_str_isascii mt_isascii (pv 0)) (pe_and (pe_bm0 PySem.F.plainAttrs_str PySem.F.slot_str_isalpha PySem.F.type_str_isalpha mt_isalpha (pv 0)) (pe_one (pe_bm0 PySem.F.plainAttrs_str PySem.F.slot_str_islower PySem.F.type_str_islower mt_islower (pv 0)))))))), ?_⟩
    have ty := ty_dp hv
    have kt := kit_str hv
    cases hv with
    | str x =>
      have sh : x.length ≤ 1000 := sh
      have q : Q (.bl (nmB x)) H := q
      refine ⟨fun σ H' => σ = [some (.str x)] ∧ H' = H ∧ x.length ≤ 8, ?_, ?_⟩
      · refine ⟨_, rfl, .str x, .ty "str", _, _, _, rfl, .ty "str", ty, kt, true, rfl, iteF ?_⟩
        refine ⟨_, rfl, _, rfl, by rw [sizeLine_eq]; omega, _, _, rfl, rfl, _, rfl, ?_⟩
        by_cases c : x.length ≤ 8
        · rw [decide_eq_false (by omega)]
          exact iteF ⟨rfl, rfl, c⟩
        · rw [decide_eq_true (by omega)]
          refine iteT ?_
          have : nmB x = false := by unfold nmB; rw [decide_eq_false c]; rfl
          rw [this] at q
          exact q
      rintro σ H' ⟨rfl, rfl, c⟩
      unfold nmB at q
      rw [decide_eq_true c, Bool.true_and] at q
      refine ⟨_, rfl, rfl, _, rfl, rfl, trivial, _, rfl, ?_⟩
      cases c1 : Txt.isascii x with
      | false => rw [c1] at q; exact iteF q
      | true =>
        rw [c1, Bool.true_and] at q
        refine iteT ⟨_, rfl, rfl, _, rfl, rfl, trivial, _, rfl, ?_⟩
        cases c2 : Txt.isalpha x with
        | false => rw [c2] at q; exact iteF q
        | true =>
          rw [c2, Bool.true_and] at q
          exact iteT ⟨_, rfl, rfl, _, rfl, rfl, trivial, q⟩
    | _ =>
      exact ⟨fun _ _ => False, ⟨_, rfl, _, .ty "str", _, _, _, rfl, .ty "str", ty, kt, _, rfl, iteT q⟩, fun _ _ h => h.elim⟩
end
/-! ### lots and tales, of any data -/
def ascD : List PyData → Bool
  | .str x :: .str y :: r => decide (x.cps.toList < y.cps.toList) && ascD (.str y :: r)
  | _ => true
def lotD : PyData → Bool
  | .tuple ds => !ds.isEmpty && (ds.all nmD && ascD ds)
  | _ => false
def taleD : PyData → Bool
  | .tuple ds => ds.all lotD
  | _ => false
def ltD : PyData × PyData → Bool
  | (.str x, .str y) => decide (x.cps.toList < y.cps.toList)
  | _ => true
theorem nm_str {d : PyData} (h : nmD d = true) : ∃ x, d = .str x ∧ nmB x = true := by
  cases d with
  | str x => exact ⟨x, rfl, h⟩
  | _ => cases h
theorem asc_zip : ∀ (d : PyData) (ds : List PyData), (d :: ds).all nmD = true → (((d :: ds).zip ds).all ltD) = ascD (d :: ds)
  | d, [], h => by
    obtain ⟨x, rfl, _⟩ := nm_str (List.all_eq_true.mp h d List.mem_cons_self)
    rfl
  | d, e :: ds, h => by
    obtain ⟨x, rfl, _⟩ := nm_str (List.all_eq_true.mp h d List.mem_cons_self)
    have h' : (e :: ds).all nmD = true := by
      rw [List.all_cons, Bool.and_eq_true] at h
      exact h.2
    obtain ⟨y, rfl, _⟩ := nm_str (List.all_eq_true.mp h' e List.mem_cons_self)
    have ih := asc_zip (.str y) ds h'
    rw [List.zip_cons_cons, List.all_cons, ih]
    rfl
theorem bl_map {α : Type} {ys : List V} {ds : List α} {f : α → Bool} (h : All2 (fun (y : V) (d : α) => y = .bl (f d)) ys ds) : ys = (ds.map f).map V.bl := by
  rw [List.map_map]
  exact h.map_eq fun a b e => e
theorem at2 {α β : Type} {R : α → β → Prop} {as : List α} {bs : List β} (h : All2 R as bs) {i : Nat} {a : α} {b : β} (ha : as[i]? = some a) (hb : bs[i]? = some b) : R a b := by
  obtain ⟨b', hb', r⟩ := h.get ha
  rw [hb] at hb'
  rw [Option.some.inj hb']
  exact r
theorem all_map {α : Type} (f : α → Bool) (l : List α) : (l.map f).all id = l.all f := by
  rw [List.all_map]; rfl
section
variable {P : Program} {w : World} {K : PySem.W.Frag} {mg : Str → Option Value} {base : Heap}
/-! ### is_lot -/
abbrev s_is_lot : Stmt := top 15
theorem sc_is_lot : FnScope ["value", "one", "other", "name"] ["value"] (defScope s_is_lot) := ⟨rfl, rfl, rfl, by decide +kernel, rfl, by decide +kernel, by decide +kernel⟩
/-- data with short rows and texts -/
def Sm1 : PyData → Prop
  | .tuple ds => ds.length ≤ 1000 ∧ ∀ d ∈ ds, ShortD d
  | _ => True
def spIsLot (K : PySem.W.Frag) : Sp := fun vs H Q _ => ∃ (v : V) (d : PyData), vs = [v] ∧ Dp K H v d ∧ Sm1 d ∧ ∀ H', Same H H' → Q (.bl (lotD d)) H'
theorem ok_is_lot {f : Addr} {fd : FuncData} (F : Fun K "is_lot" "is_lot" s_is_lot f fd) (C_is_name : Cl P w K mg base "is_name" ["value"] [] 1 (spIsName K)) (n_all : mg "all" = none) (n_isinstance : mg "isinstance" = none) (n_len : mg "len" = none) (n_tuple : mg "tuple" = none) (n_zip : mg "zip" = none) : FnOk P w K mg base CX0 2 f fd ["value"] (spIsLot K) := by
  refine F.ok sc_is_lot (fun vs H Q E h => ?_) (fun cdv A outer s H vs Q E hr h => ?_)
  · obtain ⟨_, _, rfl, _⟩ := h
    rfl
  · obtain ⟨v, d, rfl, hv, sm, q⟩ := h
    refine ⟨_, (Evl.pss_cut (ps_if (PW.pt (pw_or (pt_not (pt_val (pe_callB call_isi (by rfl) n_isinstance (by decide +kernel) (pa_cons (pv 0) (pa_cons (pe_bltn (v := .ty "tuple") (by rfl) n_tuple (by decide +kernel) rfl) pa_nil))))) (pw_or (pt_cmpR op_eq (pe_callB call_len_seq (by rfl) n_len PySem.boot_len (pa_cons (pv 0) pa_nil)) pe_int (nomark _)) (pw_or1 (pt_not (pt_val (pe_callB (cr_all rfl) (by rfl) n_all (by decide +kernel) (pa_cons (pe_lc (own := [("name", 3)]) (g := gName 3) rfl sc_is_lot.nd (pi_seq (pv 0)) (blkOk_by (N := ["value", "one", "other", "name"]) (sc := defScope s_is_lot) (by decide +kernel)) (fun _ _ _ _ _ => pg_name (i := 3) sc_is_lot.nd rfl (Or.inl rfl)) (fun _ _ _ _ _ => pts_nil) (fun _ _ _ _ _ => pe_use C_is_name (hr.mono (by decide)) rfl (pa_cons (pv 3) pa_nil))) pa_nil)))))))) (pss_one (ps_ret pe_bl)) pss_nil)
    (pss_one (ps_ret (pe_callB (cr_all rfl) (by rfl) n_all (by decide +kernel) (pa_cons (pe_lc (own := [("one", 1), ("other", 2)]) (g := gTup K 2 (gCons (gName 1) (gCons (gName 2) gNil))) rfl sc_is_lot.nd (pi_zipA (by rfl) n_zip (pa_cons (pv 0) (pa_cons (pe_slice (r := rSlA K) sl_tupA (pv 0) (po_some pe_int) po_none) pa_nil))) (blkOk_by (N := ["value", "one", "other", "name"]) (sc := defScope s_is_lot) (by decide +kernel)) (fun _ _ _ _ _ => pg_tup rfl (pgs_cons (pg_name (i := 1) sc_is_lot.nd rfl (Or.inl rfl)) (pgs_cons (pg_name (i := 2) sc_is_lot.nd rfl (Or.inl rfl)) pgs_nil))) (fun _ _ _ _ _ => pts_nil) (fun _ _ _ _ _ => pe_cmpR op_lt_str (pv 1) (pv 2) (nomark _))) pa_nil))))), ?_⟩
    have ty := ty_dp hv
    have kt := kit_tup hv
    cases hv with
    | @tup a xs ds ht ha =>
      have al := dpa_all ha
      have sm : ds.length ≤ 1000 ∧ ∀ d ∈ ds, ShortD d := sm
      have hl := al.len
      have q : ∀ H', Same H H' → Q (.bl (!ds.isEmpty && (ds.all nmD && ascD ds))) H' := q
      refine ⟨fun σ H' => σ = [some (.ref a), none, none, none] ∧ Same H H' ∧ ds ≠ [] ∧ ds.all nmD = true, ?_, ?_⟩
      · refine ⟨_, rfl, _, .ty "tuple", _, _, _, rfl, .ty "tuple", ty, kt, true, rfl, iteF ?_⟩
        refine ⟨_, rfl, a, _, rfl, .inr ht, rfl, _, rfl, ?_⟩
        by_cases c : ds = []
        · subst c
          have ex : xs = [] := List.eq_nil_of_length_eq_zero (by rw [hl]; rfl)
          subst ex
          exact iteT (q _ (Same.refl _))
        · have nl : xs.length ≠ 0 := fun e => c (List.eq_nil_of_length_eq_zero (by rw [← hl]; exact e))
          rw [decide_eq_false (fun e => nl (by injection e with e; omega))]
          refine iteF ⟨_, rfl, a, _, rfl, .inr ht, fun J S W s0 D hD => ?_⟩
          refine lc_mf (ds := ds) W (fun _ => true) (fun _ y d => y = .bl (nmD d)) s0 hD hl (fun i x d H' ex ed s m => ?_) (fun H' ys s e al2 => ?_)
          · refine ⟨rfl, _, rfl, x, d, rfl, dp_same s (at2 al ex ed), sm.2 d (at_mem ed), ?_⟩
            exact mf_yes m hD (fun _ _ _ _ _ h => h) ed (by omega) (Same.refl _) rfl rfl
          · rw [Rd.filter_all] at al2
            have ey := bl_map al2
            refine ⟨D, _, rfl, SqL.of (by rw [← ey]; exact e), _, rfl, ?_⟩
            rw [all_map]
            cases c2 : ds.all nmD with
            | true => exact iteF ⟨rfl, s, c, rfl⟩
            | false =>
              have q := q H' s
              rw [c2, Bool.false_and, Bool.and_false] at q
              exact iteT q
      rintro σ H1 ⟨rfl, s1, ne, nm⟩
      cases al with
      | nil => exact absurd rfl ne
      | @cons x0 d0 xr dr r0 rr =>
      have h1 := tupFix (Fix.of s1) ht
      refine ⟨_, rfl, ?_⟩
      refine rd_slc rfl h1 fun p H2 hp s2 e2 => ?_
      have h2 := tupFix (Fix.of s2) h1
      refine ⟨a, p, _, _, rfl, .inr ⟨h2, SqT.of e2, fun D hD => ?_⟩⟩
      have aw : All2 (Dp K H) (x0 :: xr) (d0 :: dr) := .cons r0 rr
      refine lc_mp wp_tup (ds := (d0 :: dr).zip dr) (fun _ => true) (fun _ y p => y = .bl (ltD p)) ⟨h2, SqT.of e2⟩ hD (by rw [List.length_zip, List.length_zip, aw.len, rr.len]) (fun _ _ _ _ _ h => h) (fun i T pr d H3 ep ed s3 eT m => ?_) (fun H3 ys s3 e al2 => ?_)
      · obtain ⟨p1, p2⟩ := pr
        obtain ⟨d1, d2⟩ := d
        obtain ⟨ea, eb⟩ := List.getElem?_zip_eq_some.mp ep
        obtain ⟨ga, gb⟩ := List.getElem?_zip_eq_some.mp ed
        have w1 := at2 aw ea ga
        have w2 := at2 rr eb gb
        obtain ⟨x, rfl, _⟩ := nm_str (List.all_eq_true.mp nm d1 (at_mem ga))
        obtain ⟨y, rfl, _⟩ := nm_str (List.all_eq_true.mp nm d2 (List.mem_cons_of_mem _ (at_mem gb)))
        cases w1
        cases w2
        refine ⟨T, _, rfl, SqT.of eT, rfl, _, _, rfl, _, _, rfl, rfl, rfl, _, rfl, _, rfl, _, _, rfl, rfl, ?_⟩
        exact mf_yes m hD (fun _ _ _ _ _ h => h) ed (by rw [List.length_zip]; have := sm.1; rw [List.length_cons] at this; omega) (Same.refl _) rfl rfl
      · rw [Rd.filter_all] at al2
        have ey := bl_map al2
        refine ⟨D, _, rfl, SqL.of (by rw [← ey]; exact e), ?_⟩
        rw [all_map, asc_zip _ _ nm]
        have q := q H3 ((s1.trans s2).trans s3)
        rw [nm] at q
        exact q
    | _ =>
      exact ⟨fun _ _ => False, ⟨_, rfl, _, .ty "tuple", _, _, _, rfl, .ty "tuple", ty, kt, _, rfl, iteT (q _ (Same.refl _))⟩, fun _ _ h => h.elim⟩
/-! ### is_tale -/
abbrev s_is_tale : Stmt := top 16
theorem sc_is_tale : FnScope ["value", "lot"] ["value"] (defScope s_is_tale) := ⟨rfl, rfl, rfl, by decide +kernel, rfl, by decide +kernel, by decide +kernel⟩
def Sm2 : PyData → Prop
  | .tuple ds => ds.length ≤ 1000 ∧ ∀ d ∈ ds, Sm1 d
  | _ => True
def spIsTale (K : PySem.W.Frag) : Sp := fun vs H Q _ => ∃ (v : V) (d : PyData), vs = [v] ∧ Dp K H v d ∧ Sm2 d ∧ ∀ H', Same H H' → Q (.bl (taleD d)) H'
theorem ok_is_tale {f : Addr} {fd : FuncData} (F : Fun K "is_tale" "is_tale" s_is_tale f fd) (C_is_lot : Cl P w K mg base "is_lot" ["value"] [] 2 (spIsLot K)) (n_all : mg "all" = none) (n_isinstance : mg "isinstance" = none) (n_tuple : mg "tuple" = none) : FnOk P w K mg base CX0 3 f fd ["value"] (spIsTale K) := by
  refine F.ok sc_is_tale (fun vs H Q E h => ?_) (fun cdv A outer s H vs Q E hr h => ?_)
  · obtain ⟨_, _, rfl, _⟩ := h
    rfl
  · obtain ⟨v, d, rfl, hv, sm, q⟩ := h
    refine ⟨_, (pss_one (ps_ret (pe_and (pe_callB call_isi (by rfl) n_isinstance (by decide +kernel) (pa_cons (pv 0) (pa_cons (pe_bltn (v := .ty "tuple") (by rfl) n_tuple (by decide +kernel) rfl) pa_nil))) (pe_one (pe_callB (cr_all rfl) (by rfl) n_all (by decide +kernel) (pa_cons (pe_lc (own := [("lot", 1)]) (g := gName 1) rfl sc_is_tale.nd (pi_seq (pv 0)) (blkOk_by (N := ["value", "lot"]) (sc := defScope s_is_tale) (by decide +kernel)) (fun _ _ _ _ _ => pg_name (i := 1) sc_is_tale.nd rfl (Or.inl rfl)) (fun _ _ _ _ _ => pts_nil) (fun _ _ _ _ _ => pe_use C_is_lot (hr.mono (by decide)) rfl (pa_cons (pv 1) pa_nil))) pa_nil)))))), ?_⟩
    have ty := ty_dp hv
    have kt := kit_tup hv
    cases hv with
    | @tup a xs ds ht ha =>
      have al := dpa_all ha
      have sm : ds.length ≤ 1000 ∧ ∀ d ∈ ds, Sm1 d := sm
      have hl := al.len
      have q : ∀ H', Same H H' → Q (.bl (ds.all lotD)) H' := q
      refine ⟨_, rfl, _, .ty "tuple", _, _, _, rfl, .ty "tuple", ty, kt, true, rfl, iteT ?_⟩
      refine ⟨_, rfl, a, _, rfl, .inr ht, fun J S W s0 D hD => ?_⟩
      refine lc_mf (ds := ds) W (fun _ => true) (fun _ y d => y = .bl (lotD d)) s0 hD hl (fun i x d H' ex ed s m => ?_) (fun H' ys s e al2 => ?_)
      · refine ⟨rfl, _, rfl, x, d, rfl, dp_same s (at2 al ex ed), sm.2 d (at_mem ed), fun H2 s2 => ?_⟩
        exact mf_yes m hD (fun _ _ _ _ _ h => h) ed (by omega) s2 rfl rfl
      · rw [Rd.filter_all] at al2
        have ey := bl_map al2
        refine ⟨D, _, rfl, SqL.of (by rw [← ey]; exact e), ?_⟩
        rw [all_map]
        exact q H' s
    | _ =>
      exact ⟨_, rfl, _, .ty "tuple", _, _, _, rfl, .ty "tuple", ty, kt, _, rfl, iteF (q _ (Same.refl _))⟩
end
/-! ### integers, numbers, by their data -/
def intD : PyData → Bool
  | .int _ => true
  | _ => false
def numD : PyData → Bool
  | .int i => decide (0 ≤ i)
  | _ => false
def bolD : PyData → Bool
  | .bool _ => true
  | _ => false
theorem kit_int {K : PySem.W.Frag} {H : Hp} {v : V} {d : PyData} (h : Dp K H v d) : PySem.W.kitOne K (tyD d) (.type "int") = some (intD d || bolD d) := by
  cases h with
  | non => exact kit_ty (a := "NoneType") (b := "int") (r := false) (by decide +kernel)
  | bl b => exact kit_ty (a := "bool") (b := "int") (r := true) (by decide +kernel)
  | int i => exact kit_ty (a := "int") (b := "int") (r := true) (by decide +kernel)
  | str x => exact kit_ty (a := "str") (b := "int") (r := false) (by decide +kernel)
  | lst _ _ => exact kit_ty (a := "list") (b := "int") (r := false) (by decide +kernel)
  | tup _ _ => exact kit_ty (a := "tuple") (b := "int") (r := false) (by decide +kernel)
theorem kit_bool {K : PySem.W.Frag} {H : Hp} {v : V} {d : PyData} (h : Dp K H v d) : PySem.W.kitOne K (tyD d) (.type "bool") = some (bolD d) := by
  cases h with
  | non => exact kit_ty (a := "NoneType") (b := "bool") (r := false) (by decide +kernel)
  | bl b => exact kit_ty (a := "bool") (b := "bool") (r := true) (by decide +kernel)
  | int i => exact kit_ty (a := "int") (b := "bool") (r := false) (by decide +kernel)
  | str x => exact kit_ty (a := "str") (b := "bool") (r := false) (by decide +kernel)
  | lst _ _ => exact kit_ty (a := "list") (b := "bool") (r := false) (by decide +kernel)
  | tup _ _ => exact kit_ty (a := "tuple") (b := "bool") (r := false) (by decide +kernel)
def seqD : PyData → Bool
  | .list _ => true
  | .tuple _ => true
  | _ => false
def itemsD : PyData → List PyData
  | .list ds => ds
  | .tuple ds => ds
  | _ => []
theorem kit_seq {K : PySem.W.Frag} {H : Hp} {v : V} {d : PyData} (h : Dp K H v d) : PySem.W.kitAny K (tyD d) [.type "list", .type "tuple"] = some (seqD d) := by
  have e : ∀ t : Value, ∀ b : Bool, PySem.W.kitOne K t (.type "list") = some b → ∀ c : Bool, PySem.W.kitOne K t (.type "tuple") = some c → PySem.W.kitAny K t [.type "list", .type "tuple"] = some (b || c) := fun t b e1 c e2 => by
    unfold PySem.W.kitAny
    rw [e1]
    cases b with
    | true => rfl
    | false =>
      show PySem.W.kitAny K t [.type "tuple"] = _
      unfold PySem.W.kitAny
      rw [e2]
      cases c <;> rfl
  cases h with
  | non => exact e _ false (kit_ty (a := "NoneType") (b := "list") (r := false) (by decide +kernel)) false (kit_ty (a := "NoneType") (b := "tuple") (r := false) (by decide +kernel))
  | bl b => exact e _ false (kit_ty (a := "bool") (b := "list") (r := false) (by decide +kernel)) false (kit_ty (a := "bool") (b := "tuple") (r := false) (by decide +kernel))
  | int i => exact e _ false (kit_ty (a := "int") (b := "list") (r := false) (by decide +kernel)) false (kit_ty (a := "int") (b := "tuple") (r := false) (by decide +kernel))
  | str x => exact e _ false (kit_ty (a := "str") (b := "list") (r := false) (by decide +kernel)) false (kit_ty (a := "str") (b := "tuple") (r := false) (by decide +kernel))
  | lst _ _ => exact e _ true (kit_ty (a := "list") (b := "list") (r := true) (by decide +kernel)) false (kit_ty (a := "list") (b := "tuple") (r := false) (by decide +kernel))
  | tup _ _ => exact e _ false (kit_ty (a := "tuple") (b := "list") (r := false) (by decide +kernel)) true (kit_ty (a := "tuple") (b := "tuple") (r := true) (by decide +kernel))
section
variable {P : Program} {w : World} {K : PySem.W.Frag} {mg : Str → Option Value} {base : Heap}
abbrev s_is_integer : Stmt := top 8
theorem sc_is_integer : FnScope ["value"] ["value"] (defScope s_is_integer) := ⟨rfl, rfl, rfl, by decide +kernel, rfl, by decide +kernel, by decide +kernel⟩
def spIsInt (K : PySem.W.Frag) : Sp := fun vs H Q _ => ∃ (v : V) (d : PyData), vs = [v] ∧ Dp K H v d ∧ Q (.bl (intD d)) H
theorem ok_isint {f : Addr} {fd : FuncData} (F : Fun K "is_integer" "is_integer" s_is_integer f fd) (n_bool : mg "bool" = none) (n_int : mg "int" = none) (n_isinstance : mg "isinstance" = none) : FnOk P w K mg base CX0 1 f fd ["value"] (spIsInt K) := by
  refine F.ok sc_is_integer (fun vs H Q E h => ?_) (fun cdv A outer s H vs Q E hr h => ?_)
  · obtain ⟨_, _, rfl, _⟩ := h
    rfl
  · obtain ⟨v, d, rfl, hv, q⟩ := h
    refine ⟨_, (pss_one (ps_ret (pe_and (pe_callB call_isi (by rfl) n_isinstance (by decide +kernel) (pa_cons (pv 0) (pa_cons (pe_bltn (v := .ty "int") (by rfl) n_int (by decide +kernel) rfl) pa_nil))) (pe_one (pe_not (pe_callB call_isi (by rfl) n_isinstance (by decide +kernel) (pa_cons (pv 0) (pa_cons (pe_bltn (v := .ty "bool") (by rfl) n_bool (by decide +kernel) rfl) pa_nil)))))))), ?_⟩
    have ty := ty_dp hv
    have ki := kit_int hv
    have kb := kit_bool hv
    have e : intD d = ((intD d || bolD d) && !bolD d) := by cases d <;> rfl
    rw [e] at q
    refine ⟨_, rfl, _, .ty "int", _, _, _, rfl, .ty "int", ty, ki, _, rfl, ?_⟩
    cases c : (intD d || bolD d) with
    | false => rw [c] at q; exact iteF q
    | true =>
      rw [c] at q
      exact iteT ⟨_, rfl, _, .ty "bool", _, _, _, rfl, .ty "bool", ty, kb, _, rfl, q⟩
abbrev s_is_number : Stmt := top 9
theorem sc_is_number : FnScope ["value"] ["value"] (defScope s_is_number) := ⟨rfl, rfl, rfl, by decide +kernel, rfl, by decide +kernel, by decide +kernel⟩
def spIsNum (K : PySem.W.Frag) : Sp := fun vs H Q _ => ∃ (v : V) (d : PyData), vs = [v] ∧ Dp K H v d ∧ Q (.bl (numD d)) H
theorem ok_isnum {f : Addr} {fd : FuncData} (F : Fun K "is_number" "is_number" s_is_number f fd) (C_is_integer : Cl P w K mg base "is_integer" ["value"] [] 1 (spIsInt K)) : FnOk P w K mg base CX0 2 f fd ["value"] (spIsNum K) := by
  refine F.ok sc_is_number (fun vs H Q E h => ?_) (fun cdv A outer s H vs Q E hr h => ?_)
  · obtain ⟨_, _, rfl, _⟩ := h
    rfl
  · obtain ⟨v, d, rfl, hv, q⟩ := h
    refine ⟨_, (pss_one (ps_ret (pe_and (pe_use C_is_integer (hr.mono (by decide)) rfl (pa_cons (pv 0) pa_nil)) (pe_one (pe_cmpR op_ge (pv 0) pe_int (nomark _)))))), ?_⟩
    refine ⟨_, rfl, v, d, rfl, hv, _, rfl, ?_⟩
    cases hv with
    | int i => exact iteT ⟨_, rfl, _, _, rfl, rfl, q⟩
    | _ => exact iteF q
/-! ### is_count -/
def cntD : PyData → Bool
  | .int i => decide (1 ≤ i)
  | _ => false
abbrev s_is_count : Stmt := top 10
theorem sc_is_count : FnScope ["value"] ["value"] (defScope s_is_count) := ⟨rfl, rfl, rfl, by decide +kernel, rfl, by decide +kernel, by decide +kernel⟩
def spCntD (K : PySem.W.Frag) : Sp := fun vs H Q _ => ∃ (v : V) (d : PyData), vs = [v] ∧ Dp K H v d ∧ Q (.bl (cntD d)) H
theorem ok_cnt {f : Addr} {fd : FuncData} (F : Fun K "is_count" "is_count" s_is_count f fd) (C_is_integer : Cl P w K mg base "is_integer" ["value"] [] 1 (spIsInt K)) : FnOk P w K mg base CX0 2 f fd ["value"] (spCntD K) := by
  refine F.ok sc_is_count (fun vs H Q E h => ?_) (fun cdv A outer s H vs Q E hr h => ?_)
  · obtain ⟨_, _, rfl, _⟩ := h
    rfl
  · obtain ⟨v, d, rfl, hv, q⟩ := h
    refine ⟨_, (pss_one (ps_ret (pe_and (pe_use C_is_integer (hr.mono (by decide)) rfl (pa_cons (pv 0) pa_nil)) (pe_one (pe_cmpR op_ge (pv 0) pe_int (nomark _)))))), ?_⟩
    refine ⟨_, rfl, v, d, rfl, hv, _, rfl, ?_⟩
    cases hv with
    | int i => exact iteT ⟨_, rfl, _, _, rfl, rfl, q⟩
    | _ => exact iteF q
/-! ### is_sequence -/
abbrev s_is_sequence : Stmt := top 11
theorem sc_is_sequence : FnScope ["value"] ["value"] (defScope s_is_sequence) := ⟨rfl, rfl, rfl, by decide +kernel, rfl, by decide +kernel, by decide +kernel⟩
def spSeq (K : PySem.W.Frag) : Sp := fun vs H Q _ => ∃ (v : V) (d : PyData), vs = [v] ∧ Dp K H v d ∧ ∀ H', Same H H' → Q (.bl (seqD d)) H'
theorem ok_isseq {f : Addr} {fd : FuncData} (F : Fun K "is_sequence" "is_sequence" s_is_sequence f fd) (n_isinstance : mg "isinstance" = none) (n_list : mg "list" = none) (n_tuple : mg "tuple" = none) : FnOk P w K mg base CX0 1 f fd ["value"] (spSeq K) := by
  refine F.ok sc_is_sequence (fun vs H Q E h => ?_) (fun cdv A outer s H vs Q E hr h => ?_)
  · obtain ⟨_, _, rfl, _⟩ := h
    rfl
  · obtain ⟨v, d, rfl, dv, q⟩ := h
    refine ⟨_, (pss_one (ps_ret (pe_callB call_isiT (by rfl) n_isinstance (by decide +kernel) (pa_cons (pv 0) (pa_cons (pe_tup (pa_cons (pe_bltn (v := .ty "list") (by rfl) n_list (by decide +kernel) rfl) (pa_cons (pe_bltn (v := .ty "tuple") (by rfl) n_tuple (by decide +kernel) rfl) pa_nil))) pa_nil))))), ?_⟩
    refine ⟨_, rfl, by show 2 ≤ sizeLine; decide, fun t ht => ?_⟩
    have s1 := same_new ht (.tup [V.ty "list", V.ty "tuple"])
    exact ⟨v, t, _, tyD d, _, seqD d, rfl, upd_same, .cons (.ty "list") (.cons (.ty "tuple") .nil), ty_dp (dp_same s1 dv), kit_seq dv, q _ s1⟩
end
end R0

namespace R0
open PySem PySem.Spec PyProof.Rows L2 Hb St Sq Ow En Zp RZ Rd Xb Da
/-! ### sets of texts have a length -/
theorem cr_lenT {X : Cx} : CallR X (.builtin "len") (fun xs H Q => ∃ (a : Addr) (m : List Str), xs = [.ref a] ∧ H a = some (SetT X.prog X.w a m) ∧ m.length ≤ 1000 ∧ Q (.int (m.length : Nat)) H) := by
  intro pins s σ H xs us Q I r h
  obtain ⟨a, m, rfl, ha, hb, q⟩ := h
  rw [Vals.ref1 r]
  obtain ⟨⟨es, ep, t⟩, e, F, ris, led, nd⟩ := id (show TS X.prog X.w s.heap a m from (I.hok a _ ha).1)
  have sz : es.size = m.length := F.sz
  exact call_len_set e ⟨rfl, rfl, rfl⟩ rfl F.fit (by rw [sz]; omega) ⟨.int (m.length : Nat), H, I.tok _, ⟨_, by rw [sz]⟩, q⟩
def rLenK (K : PySem.W.Frag) : List V → Hp → VK → Prop := fun xs H Q => ∃ p ys, xs = [V.ref p] ∧ (SqL K H p ys ∨ SqT K H p ys) ∧ Q (V.int (ys.length : Nat)) H
theorem nd_le : ∀ (m l : List Str), m.Nodup → (∀ x ∈ m, x ∈ l) → m.length ≤ l.length
  | [], _, _, _ => Nat.zero_le _
  | x :: m, l, nd, h => by
    have hx := h x List.mem_cons_self
    obtain ⟨h1, h2⟩ := List.nodup_cons.mp nd
    have := nd_le m (l.erase x) h2 fun y hy => (List.mem_erase_of_ne (fun e => h1 (by rw [← e]; exact hy))).mpr (h y (List.mem_cons_of_mem _ hy))
    rw [List.length_erase_of_mem hx] at this
    have := List.length_pos_of_mem hx
    rw [List.length_cons]; omega
theorem nd_short : ∀ l : List Str, ¬ l.Nodup → ∃ l' : List Str, l'.length < l.length ∧ ∀ x ∈ l, x ∈ l'
  | [], h => (h List.nodup_nil).elim
  | x :: l, h => by
    by_cases c : x ∈ l
    · exact ⟨l, by simp, fun y hy => (List.mem_cons.mp hy).elim (fun e => e ▸ c) id⟩
    · obtain ⟨l', h1, h2⟩ := nd_short l fun nd => h (List.nodup_cons.mpr ⟨c, nd⟩)
      exact ⟨x :: l', by simpa using h1, fun y hy => (List.mem_cons.mp hy).elim (fun e => e ▸ List.mem_cons_self) fun m => List.mem_cons_of_mem _ (h2 y m)⟩
/-! ### rooms, as data -/
def rmlD : PyData → Bool
  | .tuple [a, _] => nmD a
  | _ => false
def nmOf : PyData → Str
  | .tuple (.str x :: _) => x
  | _ => Str.ofString ""
def tlOf : PyData → PyData
  | .tuple [_, t] => t
  | _ => .none
def arD (d : PyData) : Bool := seqD d && (decide (1 ≤ (itemsD d).length ∧ (itemsD d).length ≤ 3) && ((itemsD d).all rmlD && (decide ((itemsD d).map nmOf).Nodup && (itemsD d).all fun e => taleD (tlOf e))))
def SmE : PyData → Prop
  | .tuple ds => ∀ x ∈ ds, ShortD x ∧ Sm2 x
  | _ => True
def SmR (d : PyData) : Prop := ∀ e ∈ itemsD d, SmE e
theorem rml_of {K : PySem.W.Frag} {H : Hp} {v : V} {d : PyData} (h : Dp K H v d) (r : rmlD d = true) : ∃ a x t vt, v = .ref a ∧ d = .tuple [.str x, t] ∧ SqT K H a [.str x, vt] ∧ Dp K H vt t ∧ nmB x = true := by
  cases h with
  | tup ht ha =>
    cases dpa_all ha with
    | nil => cases r
    | cons h1 r1 =>
      cases r1 with
      | nil => cases r
      | cons h2 r2 =>
        cases r2 with
        | cons _ _ => cases r
        | nil =>
          obtain ⟨x, rfl, nx⟩ := nm_str (show nmD _ = true from r)
          cases h1
          exact ⟨_, _, _, _, rfl, rfl, ht, h2, nx⟩
  | _ => cases r
theorem seq_of {K : PySem.W.Frag} {H : Hp} {v : V} {d : PyData} (h : Dp K H v d) (c : seqD d = true) : ∃ a xs, v = .ref a ∧ SqX K H a xs ∧ All2 (Dp K H) xs (itemsD d) := by
  cases h with
  | lst h a => exact ⟨_, _, rfl, .inl h, dpa_all a⟩
  | tup h a => exact ⟨_, _, rfl, .inr h, dpa_all a⟩
  | _ => cases c
section
variable {P : Program} {w : World} {K : PySem.W.Frag} {mg : Str → Option Value} {base : Heap}
/-! ### are_rooms -/
abbrev s_are_rooms : Stmt := top 24
theorem sc_are_rooms : FnScope ["value", "room"] ["value"] (defScope s_are_rooms) := ⟨rfl, rfl, rfl, by decide +kernel, rfl, by decide +kernel, by decide +kernel⟩
def spAreR (K : PySem.W.Frag) (w : World) : Sp := fun vs H Q _ => ∃ (v : V) (d : PyData), vs = [v] ∧ Dp K H v d ∧ SmR d ∧ ∀ H', Same H H' → Q (.bl (arD d)) H'
theorem ok_arer {f : Addr} {fd : FuncData} (F : Fun K "are_rooms" "are_rooms" s_are_rooms f fd) (C_is_name : Cl P w K mg base "is_name" ["value"] [] 1 (spIsName K)) (C_is_sequence : Cl P w K mg base "is_sequence" ["value"] [] 1 (spSeq K)) (C_is_tale : Cl P w K mg base "is_tale" ["value"] [] 3 (spIsTale K)) {tk : Tok} (g_MOST_ROOMS : mg "MOST_ROOMS" = some (.int 3 tk)) (n_all : mg "all" = none) (n_isinstance : mg "isinstance" = none) (n_len : mg "len" = none) (n_set : mg "set" = none) (n_tuple : mg "tuple" = none) : FnOk P w K mg base CX0 4 f fd ["value"] (spAreR K w) := by
  refine F.ok sc_are_rooms (fun vs H Q E h => ?_) (fun cdv A outer s H vs Q E hr h => ?_)
  · obtain ⟨_, _, rfl, _⟩ := h
    rfl
  · obtain ⟨v, d, rfl, dv, sm, q⟩ := h
    refine ⟨_, (Evl.pss_cut (ps_if (PW.pt (pw_or (pt_not (pt_val (pe_use C_is_sequence (hr.mono (by decide)) rfl (pa_cons (pv 0) pa_nil)))) (pw_or1 (pt_not (pt_chain op_le op_le pe_int (pe_callB call_len_seq (by rfl) n_len PySem.boot_len (pa_cons (pv 0) pa_nil)) (pe_glob (v := .int 3) rfl g_MOST_ROOMS ⟨_, rfl⟩)))))) (pss_one (ps_ret pe_bl)) pss_nil)
    (Evl.pss_cut (ps_if (pt_not (pt_val (pe_callB (cr_all rfl) (by rfl) n_all (by decide +kernel) (pa_cons (pe_lc (own := [("room", 1)]) (g := gName 1) rfl sc_are_rooms.nd (pi_seq (pv 0)) (blkOk_by (N := ["value", "room"]) (sc := defScope s_are_rooms) (by decide +kernel)) (fun _ _ _ _ _ => pg_name (i := 1) sc_are_rooms.nd rfl (Or.inl rfl)) (fun _ _ _ _ _ => pts_nil) (fun _ _ _ _ _ => pe_and (pe_callB (id := "isinstance") (r := rIsi K) call_isi (by rfl) n_isinstance (by decide +kernel) (pa_cons (pv 1) (pa_cons (pe_bltn (v := .ty "tuple") (by rfl) n_tuple (by decide +kernel) rfl) pa_nil))) (pe_and (pe_cmpR op_eq (pe_callB (id := "len") (r := rLenK K) call_len_seq (by rfl) n_len PySem.boot_len (pa_cons (pv 1) pa_nil)) pe_int (nomark _)) (pe_one (pe_use C_is_name (hr.mono (by decide)) rfl (pa_cons (pe_ix (r := rIxT K) ix_tup (pv 1) pe_int (fun _ _ => rfl)) pa_nil)))))) pa_nil)))) (pss_one (ps_ret pe_bl)) pss_nil)
    (Evl.pss_cut (ps_if (pt_cmpR op_lt (pe_callB cr_lenT (by rfl) n_len PySem.boot_len (pa_cons (pe_callTy (cr_setT rfl) (by rfl) n_set (by decide +kernel) (pa_cons (pe_lc (own := [("room", 1)]) (g := gName 1) rfl sc_are_rooms.nd (pi_seq (pv 0)) (blkOk_by (N := ["value", "room"]) (sc := defScope s_are_rooms) (by decide +kernel)) (fun _ _ _ _ _ => pg_name (i := 1) sc_are_rooms.nd rfl (Or.inl rfl)) (fun _ _ _ _ _ => pts_nil) (fun _ _ _ _ _ => pe_ix (r := rIxT K) ix_tup (pv 1) pe_int (fun _ _ => rfl))) pa_nil)) pa_nil)) (pe_callB call_len_seq (by rfl) n_len PySem.boot_len (pa_cons (pv 0) pa_nil)) (nomark _)) (pss_one (ps_ret pe_bl)) pss_nil)
    (pss_one (ps_ret (pe_callB (cr_all rfl) (by rfl) n_all (by decide +kernel) (pa_cons (pe_lc (own := [("room", 1)]) (g := gName 1) rfl sc_are_rooms.nd (pi_seq (pv 0)) (blkOk_by (N := ["value", "room"]) (sc := defScope s_are_rooms) (by decide +kernel)) (fun _ _ _ _ _ => pg_name (i := 1) sc_are_rooms.nd rfl (Or.inl rfl)) (fun _ _ _ _ _ => pts_nil) (fun _ _ _ _ _ => pe_use C_is_tale (hr.mono (by decide)) rfl (pa_cons (pe_ix (r := rIxT K) ix_tup (pv 1) pe_int (fun _ _ => rfl)) pa_nil))) pa_nil))))))), ?_⟩
    refine ⟨fun σ H' => σ = [some v, none] ∧ Same H H' ∧ seqD d = true ∧ 1 ≤ (itemsD d).length ∧ (itemsD d).length ≤ 3, ?_, ?_⟩
    · refine ⟨_, rfl, v, d, rfl, dv, fun H1 s1 => ⟨_, rfl, ?_⟩⟩
      have q1 := q _ s1
      unfold arD at q1
      cases c : seqD d with
      | false => rw [c] at q1; exact iteT q1
      | true =>
        rw [c, Bool.true_and] at q1
        obtain ⟨a, xs, rfl, hx, al⟩ := seq_of (dp_same s1 dv) c
        have ln := al.len
        refine iteF ⟨_, rfl, a, xs, rfl, hx, 1, _, rfl, rfl, _, rfl, ?_⟩
        rw [ln]
        by_cases c1 : 1 ≤ (itemsD d).length
        · refine iteD (fun _ => ⟨_, _, rfl, rfl, _, rfl, ?_⟩) fun z => (z (by omega)).elim
          by_cases c2 : (itemsD d).length ≤ 3
          · rw [decide_eq_true (show ((itemsD d).length : Int) ≤ 3 by omega)]
            exact iteF ⟨rfl, s1, rfl, c1, c2⟩
          · rw [decide_eq_false (show ¬ ((itemsD d).length : Int) ≤ 3 by omega)]
            rw [decide_eq_false (fun z => c2 z.2)] at q1
            exact iteT q1
        · rw [decide_eq_false (show ¬ (1 : Int) ≤ ((itemsD d).length : Nat) by omega)]
          rw [decide_eq_false (fun z => c1 z.1)] at q1
          exact iteF ⟨_, rfl, iteT q1⟩
    rintro σ H1 ⟨rfl, s1, c, c1, c2⟩
    have q : ∀ H', Same H1 H' → Q (.bl ((itemsD d).all rmlD && (decide ((itemsD d).map nmOf).Nodup && (itemsD d).all fun e => taleD (tlOf e)))) H' := fun H' s => by
      have := q H' (s1.trans s)
      unfold arD at this
      rw [c, decide_eq_true ⟨c1, c2⟩, Bool.true_and, Bool.true_and] at this
      exact this
    obtain ⟨a, xs, rfl, hx, al⟩ := seq_of (dp_same s1 dv) c
    have ln := al.len
    refine ⟨fun σ H' => σ = [some (.ref a), none] ∧ Same H1 H' ∧ (itemsD d).all rmlD = true, ?_, ?_⟩
    · refine ⟨_, rfl, a, xs, rfl, hx, fun J S W s0 D hD => ?_⟩
      refine lc_mf (ds := itemsD d) W (fun _ => true) (fun _ y e => y = .bl (rmlD e)) s0 hD ln (fun i x e H' ex ee s m => ?_) (fun H' ys s e al2 => ?_)
      · have dx := dp_same s (at2 al ex ee)
        have se := sm e (at_mem ee)
        refine ⟨rfl, _, rfl, x, .ty "tuple", _, _, _, rfl, .ty "tuple", ty_dp dx, kit_tup dx, _, rfl, ?_⟩
        have fin : ∀ (b : Bool), rmlD e = b → ∃ acc, H' D = some (.lst acc) ∧ acc.length < sizeLine ∧ MF H1 D (itemsD d) (fun _ => true) (fun _ y e => y = .bl (rmlD e)) (i + 1) (upd H' D (.lst (acc ++ [.bl b]))) := fun b eb =>
          mf_yes m hD (fun _ _ _ _ _ h => h) ee (by omega) (Same.refl _) rfl (by rw [eb])
        cases dx with
        | @tup b ys es ht ha =>
          have al3 := dpa_all ha
          refine iteT ⟨_, rfl, b, _, rfl, .inr ht, rfl, _, rfl, ?_⟩
          rw [al3.len]
          have neq : ∀ n : Nat, n ≠ 2 → decide (V.int (n : Nat) = V.int 2) = false := fun n h => decide_eq_false fun z => by injection z with z; omega
          cases al3 with
          | nil => rw [neq _ (by decide)]; exact iteF (fin _ rfl)
          | cons h1 r1 =>
            cases r1 with
            | nil => rw [neq _ (by simp)]; exact iteF (fin _ rfl)
            | cons h2 r2 =>
              cases r2 with
              | cons h3 r3 => rw [neq _ (by simp)]; exact iteF (fin _ rfl)
              | nil => exact iteT ⟨_, rfl, b, _, _, _, rfl, rfl, ht, at0, _, _, rfl, h1, (se _ (by simp)).1, fin _ rfl⟩
        | _ => exact iteF (fin _ rfl)
      · rw [Rd.filter_all] at al2
        have ey := bl_map al2
        refine ⟨D, _, rfl, SqL.of (by rw [← ey]; exact e), _, rfl, ?_⟩
        rw [all_map]
        cases c2 : (itemsD d).all rmlD with
        | true => exact iteF ⟨rfl, s, rfl⟩
        | false =>
          have q := q H' s
          rw [c2, Bool.false_and] at q
          exact iteT q
    rintro σ H2 ⟨rfl, s2, c3⟩
    have q : ∀ H', Same H2 H' → Q (.bl (decide ((itemsD d).map nmOf).Nodup && (itemsD d).all fun e => taleD (tlOf e))) H' := fun H' s => by
      have := q H' (s2.trans s)
      rw [c3, Bool.true_and] at this
      exact this
    have hx := sqxSame s2 hx
    have al := al.imp fun _ _ r => dp_same s2 r
    have rml : ∀ {i : Nat} {x : V} {e : PyData}, xs[i]? = some x → (itemsD d)[i]? = some e → ∃ a x' t vt, x = .ref a ∧ e = .tuple [.str x', t] ∧ SqT K H2 a [.str x', vt] ∧ Dp K H2 vt t ∧ nmB x' = true := fun ex ee => rml_of (at2 al ex ee) (List.all_eq_true.mp c3 _ (at_mem ee))
    refine ⟨fun σ H' => σ = [some (.ref a), none] ∧ Same H2 H' ∧ ((itemsD d).map nmOf).Nodup, ?_, ?_⟩
    · refine ⟨_, rfl, a, xs, rfl, hx, fun J S W s0 D hD => ?_⟩
      refine lc_mf (ds := itemsD d) W (fun _ => true) (fun _ y e => y = .str (nmOf e)) s0 hD ln (fun i x e H' ex ee s m => ?_) (fun H' ys s e al2 => ?_)
      · obtain ⟨b, x', t, vt, rfl, rfl, ht, h2, nx⟩ := rml ex ee
        refine ⟨rfl, _, rfl, b, _, _, _, rfl, rfl, tupFix (Fix.of s) ht, at0, ?_⟩
        exact mf_yes m hD (fun _ _ _ _ _ h => h) ee (by omega) (Same.refl _) rfl rfl
      · rw [Rd.filter_all] at al2
        have ey : ys = ((itemsD d).map nmOf).map V.str := by rw [List.map_map]; exact al2.map_eq fun _ _ h => h
        rw [ey] at e
        refine ⟨D, _, rfl, SqX.lst e, by rw [List.length_map]; omega, fun b mm hb nd ml mem => ?_⟩
        have s5 := same_new hb (SetT P w b mm)
        refine ⟨b, mm, rfl, upd_same, by rw [List.length_map] at ml; omega, _, rfl, a, xs, rfl, sqxSame (s.trans s5) hx, _, _, rfl, rfl, _, rfl, ?_⟩
        by_cases c4 : ((itemsD d).map nmOf).Nodup
        · have le := nd_le _ mm c4 fun x hx => (mem x).mpr hx
          rw [List.length_map] at le
          rw [decide_eq_false (show ¬ ((mm.length : Nat) : Int) < ((xs.length : Nat) : Int) by omega)]
          exact iteF ⟨rfl, s.trans s5, c4⟩
        · obtain ⟨l', h1, h2⟩ := nd_short _ c4
          have le := nd_le mm l' nd fun x hx => h2 x ((mem x).mp hx)
          rw [List.length_map] at h1
          rw [decide_eq_true (show ((mm.length : Nat) : Int) < ((xs.length : Nat) : Int) by omega)]
          have q := q _ (s.trans s5)
          rw [decide_eq_false c4, Bool.false_and] at q
          exact iteT q
    rintro σ H3 ⟨rfl, s3, c4⟩
    rw [decide_eq_true c4, Bool.true_and] at q
    refine ⟨_, rfl, a, xs, rfl, sqxSame s3 hx, fun J S W s0 D hD => ?_⟩
    refine lc_mf (ds := itemsD d) W (fun _ => true) (fun _ y e => y = .bl (taleD (tlOf e))) s0 hD ln (fun i x e H' ex ee s m => ?_) (fun H' ys s e al2 => ?_)
    · obtain ⟨b, x', t, vt, rfl, rfl, ht, h2, nx⟩ := rml ex ee
      have s4 := s3.trans s
      refine ⟨rfl, _, rfl, b, _, _, _, rfl, rfl, tupFix (Fix.of s4) ht, at1, vt, t, rfl, dp_same s4 h2, (sm _ (at_mem ee) t (by simp)).2, fun H5 s5 => ?_⟩
      exact mf_yes m hD (fun _ _ _ _ _ h => h) ee (by omega) s5 rfl rfl
    · rw [Rd.filter_all] at al2
      have ey := bl_map al2
      refine ⟨D, _, rfl, SqL.of (by rw [← ey]; exact e), ?_⟩
      rw [all_map]
      exact q H' (s3.trans s)
end
end R0

namespace R0
open PySem PySem.Spec PyProof.Rows L2 Hb St Sq Ow En Zp RZ Rd Xb Da
/-! ### steps and joins, as data -/
def mnK (ms : List (Str × Int)) : List (Key × V) := ms.map fun p => (Sum.inr p.1, .int p.2)
theorem mn_get : ∀ (ms : List (Str × Int)) (x : Str), valV (mnK ms) (Sum.inr x : Key) = (ms.lookup x).map V.int
  | [], _ => rfl
  | (y, n) :: r, x => by
    show valV ((Sum.inr y, V.int n) :: mnK r) _ = _
    rw [List.lookup_cons]
    by_cases c : y = x
    · subst c
      rw [valV_pos rfl, beq_self_eq_true]; rfl
    · rw [valV_neg fun z => c (Sum.inr.inj z), mn_get r x, show (x == y) = false from by simpa using fun z => c z.symm]
def stB (ms : List (Str × Int)) : PyData → Bool
  | .tuple [.str x, b] => nmB x && (match ms.lookup x with
    | some n => cntD b && (match b with
      | .int i => decide (i ≤ n)
      | _ => false)
    | none => false)
  | _ => false
def SmS : PyData → Prop
  | .tuple ds => ∀ x ∈ ds, ShortD x
  | _ => True
def SmJ : PyData → Prop
  | .tuple ds => ∀ x ∈ ds, SmS x
  | _ => True
def SmJs (d : PyData) : Prop := (itemsD d).length ≤ 1000 ∧ ∀ x ∈ itemsD d, SmJ x
def jnB (ms : List (Str × Int)) : PyData → Bool
  | .tuple [a, b] => stB ms a && (stB ms b && decide (nmOf a ≠ nmOf b))
  | _ => false
theorem neStr (x y : Str) : (!decide (V.str x = V.str y)) = decide (x ≠ y) := by
  by_cases z : x = y
  · subst z; simp
  · rw [decide_eq_false (fun e => z (by injection e)), decide_eq_true z]; rfl
theorem eqStr (x y : Str) : decide (V.str x = V.str y) = decide (x = y) := by
  by_cases z : x = y
  · subst z; simp
  · rw [decide_eq_false (fun e => z (by injection e)), decide_eq_false z]
theorem st_len {ms : List (Str × Int)} {ds : List PyData} (h : ds.length ≠ 2) : stB ms (.tuple ds) = false := by
  match ds, h with
  | [], _ => rfl
  | [a], _ => cases a <;> rfl
  | a :: b :: c :: r, _ => cases a <;> rfl
  | [a, b], h => exact absurd rfl h
theorem st_nm {ms : List (Str × Int)} {a b : PyData} (h : nmD a = false) : stB ms (.tuple [a, b]) = false := by
  cases a with
  | str x =>
    show (nmB x && _) = false
    rw [show nmB x = false from h]; rfl
  | _ => rfl
theorem st_no {ms : List (Str × Int)} {x : Str} {b : PyData} (h : ms.lookup x = none) : stB ms (.tuple [.str x, b]) = false := by
  show (nmB x && (match ms.lookup x with | some n => _ | none => false)) = false
  rw [h, Bool.and_false]
def leB (n : Int) : PyData → Bool
  | .int i => decide (i ≤ n)
  | _ => false
theorem st_yes {ms : List (Str × Int)} {x : Str} {b : PyData} {n : Int} (nx : nmB x = true) (h : ms.lookup x = some n) : stB ms (.tuple [.str x, b]) = (cntD b && leB n b) := by
  show (nmB x && (match ms.lookup x with | some n => _ | none => false)) = _
  rw [h, nx, Bool.true_and]
  cases b <;> rfl
section
variable {P : Program} {w : World} {K : PySem.W.Frag} {mg : Str → Option Value} {base : Heap}
/-! ### is_step -/
abbrev s_is_step : Stmt := top 25
theorem sc_is_step : FnScope ["many", "value"] ["many", "value"] (defScope s_is_step) := ⟨rfl, rfl, rfl, by decide +kernel, rfl, by decide +kernel, by decide +kernel⟩
def spStep (K : PySem.W.Frag) : Sp := fun vs H Q _ => ∃ (m : Addr) (ms : List (Str × Int)) (v : V) (d : PyData), vs = [.ref m, v] ∧ H m = some (.dK (mnK ms)) ∧ Dp K H v d ∧ SmS d ∧ Q (.bl (stB ms d)) H
theorem ok_step {f : Addr} {fd : FuncData} (F : Fun K "is_step" "is_step" s_is_step f fd) (C_is_count : Cl P w K mg base "is_count" ["value"] [] 2 (spCntD K)) (C_is_name : Cl P w K mg base "is_name" ["value"] [] 1 (spIsName K)) (n_isinstance : mg "isinstance" = none) (n_len : mg "len" = none) (n_tuple : mg "tuple" = none) : FnOk P w K mg base CX0 3 f fd ["many", "value"] (spStep K) := by
  refine F.ok sc_is_step (fun vs H Q E h => ?_) (fun cdv A outer s H vs Q E hr h => ?_)
  · obtain ⟨_, _, _, _, rfl, _⟩ := h
    rfl
  · obtain ⟨m, ms, v, d, rfl, em, dv, sm, q⟩ := h
    refine ⟨_, (Evl.pss_cut (ps_if (PW.pt (pw_or (pt_not (pt_val (pe_callB call_isi (by rfl) n_isinstance (by decide +kernel) (pa_cons (pv 1) (pa_cons (pe_bltn (v := .ty "tuple") (by rfl) n_tuple (by decide +kernel) rfl) pa_nil))))) (pw_or (pt_cmpR op_ne (pe_callB call_len_seq (by rfl) n_len PySem.boot_len (pa_cons (pv 1) pa_nil)) pe_int (nomark _)) (pw_or (pt_not (pt_val (pe_use C_is_name (hr.mono (by decide)) rfl (pa_cons (pe_ix ix_tup (pv 1) pe_int (fun _ _ => rfl)) pa_nil)))) (pw_or1 (pt_cmp (pc_dnotin (hu_of hr) (pe_ix ix_tup (pv 1) pe_int (fun _ _ => rfl)) (pv 0)))))))) (pss_one (ps_ret pe_bl)) pss_nil)
    (pss_one (ps_ret (pe_and (pe_use C_is_count (hr.mono (by decide)) rfl (pa_cons (pe_ix ix_tup (pv 1) pe_int (fun _ _ => rfl)) pa_nil)) (pe_one (pe_cmpR op_le (pe_ix ix_tup (pv 1) pe_int (fun _ _ => rfl)) (pe_dget (hu_of hr) (pv 0) (pe_ix ix_tup (pv 1) pe_int (fun _ _ => rfl)) (fun _ _ => rfl)) (nomark _))))))), ?_⟩
    have ty := ty_dp dv
    have kt := kit_tup dv
    cases dv with
    | @tup a xs ds ht ha =>
      have al := dpa_all ha
      have neq : ∀ n : Nat, n ≠ 2 → (!decide (V.int (n : Nat) = V.int 2)) = true := fun n h => by rw [decide_eq_false fun z => by injection z with z; omega]; rfl
      refine ⟨fun σ H' => σ = [some (.ref m), some (.ref a)] ∧ H' = H ∧ ∃ x n v2 d2, ds = [.str x, d2] ∧ xs = [.str x, v2] ∧ Dp K H v2 d2 ∧ nmB x = true ∧ ms.lookup x = some n, ?_, ?_⟩
      · refine ⟨_, rfl, _, .ty "tuple", _, _, _, rfl, .ty "tuple", ty, kt, true, rfl, iteF ⟨_, rfl, a, _, rfl, .inr ht, rfl, _, rfl, ?_⟩⟩
        have ll := al.len
        by_cases c2 : ds.length = 2
        · cases al with
          | nil => cases c2
          | cons h1 r1 =>
            cases r1 with
            | nil => cases c2
            | cons h2 r2 =>
              cases r2 with
              | cons h3 r3 => simp at c2
              | @nil =>
              refine iteF ⟨_, rfl, a, _, _, _, rfl, rfl, ht, at0, _, _, rfl, h1, sm _ (by simp), _, rfl, ?_⟩
              cases c3 : nmD _ with
              | false =>
                rw [st_nm c3] at q
                exact iteT q
              | true =>
                obtain ⟨x, rfl, nx⟩ := nm_str c3
                cases h1
                refine iteF ⟨_, rfl, a, _, _, _, rfl, rfl, ht, at0, _, rfl, m, _, rfl, DGet.k (k := Sum.inr x) em, _, rfl, ?_⟩
                rw [mn_get]
                cases c4 : ms.lookup x with
                | none =>
                  rw [st_no c4] at q
                  exact iteT q
                | some n => exact iteF ⟨rfl, rfl, x, n, _, _, rfl, rfl, h2, nx, c4⟩
        · rw [st_len c2] at q
          rw [neq _ (by rw [ll]; exact c2)]
          exact iteT q
      rintro σ H' ⟨rfl, rfl, x, n, v2, d2, rfl, rfl, h2, nx, c4⟩
      rw [st_yes nx c4] at q
      refine ⟨_, rfl, a, _, _, _, rfl, rfl, ht, at1, _, _, rfl, h2, _, rfl, ?_⟩
      cases h2 with
      | int i =>
        cases c5 : cntD (.int i) with
        | false => rw [c5] at q; exact iteF q
        | true =>
          rw [c5, Bool.true_and] at q
          refine iteT ⟨_, rfl, a, _, _, _, rfl, rfl, ht, at1, _, rfl, _, rfl, a, _, _, _, rfl, rfl, ht, at0, m, .int n, rfl, ?_, _, _, rfl, rfl, q⟩
          have := DGet.k (k := Sum.inr x) em
          rw [mn_get, c4] at this
          exact this
      | _ => exact iteF q
    | _ => exact ⟨fun _ _ => False, ⟨_, rfl, _, .ty "tuple", _, _, _, rfl, .ty "tuple", ty, kt, _, rfl, iteT q⟩, fun _ _ h => h.elim⟩
theorem st_shape {ms : List (Str × Int)} {d : PyData} (h : stB ms d = true) : ∃ x i n, d = .tuple [.str x, .int i] ∧ ms.lookup x = some n ∧ 1 ≤ i ∧ i ≤ n ∧ nmB x = true := by
  cases d with
  | tuple ds =>
    by_cases c2 : ds.length = 2
    · match ds, c2 with
      | [a, b], _ =>
        cases c3 : nmD a with
        | false => rw [st_nm c3] at h; cases h
        | true =>
          obtain ⟨x, rfl, nx⟩ := nm_str c3
          cases c4 : ms.lookup x with
          | none => rw [st_no c4] at h; cases h
          | some n =>
            rw [st_yes nx c4, Bool.and_eq_true] at h
            cases b with
            | int i => exact ⟨x, i, n, rfl, c4, of_decide_eq_true h.1, of_decide_eq_true h.2, nx⟩
            | _ => cases h.1
    · rw [st_len c2] at h; cases h
  | _ => cases h
theorem jn_len {ms : List (Str × Int)} {ds : List PyData} (h : ds.length ≠ 2) : jnB ms (.tuple ds) = false := by
  match ds, h with
  | [], _ => rfl
  | [a], _ => rfl
  | a :: b :: c :: r, _ => rfl
  | [a, b], h => exact absurd rfl h
/-! ### is_join -/
abbrev s_is_join : Stmt := top 26
theorem sc_is_join : FnScope ["many", "value", "step"] ["many", "value"] (defScope s_is_join) := ⟨rfl, rfl, rfl, by decide +kernel, rfl, by decide +kernel, by decide +kernel⟩
def spJoin (K : PySem.W.Frag) : Sp := fun vs H Q _ => ∃ (m : Addr) (ms : List (Str × Int)) (v : V) (d : PyData), vs = [.ref m, v] ∧ H m = some (.dK (mnK ms)) ∧ Dp K H v d ∧ SmJ d ∧ ∀ H', Same H H' → Q (.bl (jnB ms d)) H'
theorem ok_join {f : Addr} {fd : FuncData} (F : Fun K "is_join" "is_join" s_is_join f fd) (C_is_step : Cl P w K mg base "is_step" ["many", "value"] [] 3 (spStep K)) (n_all : mg "all" = none) (n_isinstance : mg "isinstance" = none) (n_len : mg "len" = none) (n_tuple : mg "tuple" = none) : FnOk P w K mg base CX0 4 f fd ["many", "value"] (spJoin K) := by
  refine F.ok sc_is_join (fun vs H Q E h => ?_) (fun cdv A outer s H vs Q E hr h => ?_)
  · obtain ⟨_, _, _, _, rfl, _⟩ := h
    rfl
  · obtain ⟨m, ms, v, d, rfl, em, dv, sm, q⟩ := h
    refine ⟨_, (Evl.pss_cut (ps_if (PW.pt (pw_or (pt_not (pt_val (pe_callB call_isi (by rfl) n_isinstance (by decide +kernel) (pa_cons (pv 1) (pa_cons (pe_bltn (v := .ty "tuple") (by rfl) n_tuple (by decide +kernel) rfl) pa_nil))))) (pw_or (pt_cmpR op_ne (pe_callB call_len_seq (by rfl) n_len PySem.boot_len (pa_cons (pv 1) pa_nil)) pe_int (nomark _)) (pw_or1 (pt_not (pt_val (pe_callB (cr_all rfl) (by rfl) n_all (by decide +kernel) (pa_cons (pe_lc (own := [("step", 2)]) (g := gName 2) rfl sc_is_join.nd (pi_seq (pv 1)) (blkOk_by (N := ["many", "value", "step"]) (sc := defScope s_is_join) (by decide +kernel)) (fun _ _ _ _ _ => pg_name (i := 2) sc_is_join.nd rfl (Or.inl rfl)) (fun _ _ _ _ _ => pts_nil) (fun _ _ _ _ _ => pe_use C_is_step (hr.mono (by decide)) rfl (pa_cons (pv 0) (pa_cons (pv 2) pa_nil)))) pa_nil)))))))) (pss_one (ps_ret pe_bl)) pss_nil)
    (pss_one (ps_ret (pe_cmpR op_ne (pe_ix ix_tup (pe_ix ix_tup (pv 1) pe_int (fun _ _ => rfl)) pe_int (fun _ _ => rfl)) (pe_ix ix_tup (pe_ix ix_tup (pv 1) pe_int (fun _ _ => rfl)) pe_int (fun _ _ => rfl)) (nomark _))))), ?_⟩
    have ty := ty_dp dv
    have kt := kit_tup dv
    cases dv with
    | @tup a xs ds ht ha =>
      have al := dpa_all ha
      have neq : ∀ n : Nat, n ≠ 2 → (!decide (V.int (n : Nat) = V.int 2)) = true := fun n h => by rw [decide_eq_false fun z => by injection z with z; omega]; rfl
      refine ⟨fun σ H' => σ = [some (.ref m), some (.ref a), none] ∧ Same H H' ∧ ∃ d1 d2, ds = [d1, d2] ∧ stB ms d1 = true ∧ stB ms d2 = true, ?_, ?_⟩
      · refine ⟨_, rfl, _, .ty "tuple", _, _, _, rfl, .ty "tuple", ty, kt, true, rfl, iteF ⟨_, rfl, a, _, rfl, .inr ht, rfl, _, rfl, ?_⟩⟩
        have ll := al.len
        by_cases c2 : ds.length = 2
        · rw [ll, c2]
          refine iteF ⟨_, rfl, a, _, rfl, .inr ht, fun J S W s0 D hD => ?_⟩
          refine lc_mf (ds := ds) W (fun _ => true) (fun _ y e => y = .bl (stB ms e)) s0 hD ll (fun i x e H' ex ee s k => ?_) (fun H' ys s e al2 => ?_)
          · refine ⟨rfl, _, rfl, _, rfl, m, ms, x, e, rfl, s _ _ em, dp_same s (at2 al ex ee), sm e (at_mem ee), ?_⟩
            exact mf_yes k hD (fun _ _ _ _ _ h => h) ee (by omega) (Same.refl _) rfl rfl
          · rw [Rd.filter_all] at al2
            have ey := bl_map al2
            refine ⟨D, _, rfl, SqL.of (by rw [← ey]; exact e), _, rfl, ?_⟩
            rw [all_map]
            match ds, c2 with
            | [d1, d2], _ =>
              have q : ∀ H', Same H H' → Q (.bl (stB ms d1 && (stB ms d2 && decide (nmOf d1 ≠ nmOf d2)))) H' := q
              cases c3 : stB ms d1 with
              | false =>
                rw [List.all_cons, c3]
                have q := q _ s
                rw [c3] at q
                exact iteT q
              | true =>
                cases c4 : stB ms d2 with
                | false =>
                  rw [List.all_cons, List.all_cons, c3, c4]
                  have q := q _ s
                  rw [c3, c4] at q
                  exact iteT q
                | true =>
                  rw [List.all_cons, List.all_cons, c3, c4]
                  exact iteF ⟨rfl, s, d1, d2, rfl, c3, c4⟩
        · have q := q _ (Same.refl _)
          rw [jn_len c2] at q
          rw [neq _ (by rw [ll]; exact c2)]
          exact iteT q
      rintro σ H' ⟨rfl, s, d1, d2, rfl, c3, c4⟩
      obtain ⟨x, i, n, rfl, e1⟩ := st_shape c3
      obtain ⟨y, j, n', rfl, e2⟩ := st_shape c4
      have q := q _ s
      have q : Q (.bl (stB ms (.tuple [.str x, .int i]) && (stB ms (.tuple [.str y, .int j]) && decide (x ≠ y)))) H' := q
      rw [c3, c4, Bool.true_and, Bool.true_and] at q
      cases al with
      | cons h1 r1 =>
        cases r1 with
        | cons h2 r2 =>
          cases r2
          cases h1 with
          | tup t1 a1 =>
            cases h2 with
            | tup t2 a2 =>
              cases dpa_all a1 with
              | cons g1 _ =>
                cases dpa_all a2 with
                | cons g2 _ =>
                  cases g1
                  cases g2
                  have fx := Fix.of s
                  refine ⟨_, rfl, a, _, _, _, rfl, rfl, tupFix fx ht, at0, _, _, _, _, rfl, rfl, tupFix fx t1, at0, _, rfl, a, _, _, _, rfl, rfl, tupFix fx ht, at1, _, _, _, _, rfl, rfl, tupFix fx t2, at0, rfl, ?_⟩
                  show Q (.bl (!decide (V.str x = V.str y))) H'
                  rw [neStr]
                  exact q
    | _ => exact ⟨fun _ _ => False, ⟨_, rfl, _, .ty "tuple", _, _, _, rfl, .ty "tuple", ty, kt, _, rfl, iteT (q _ (Same.refl _))⟩, fun _ _ h => h.elim⟩
end
end R0

namespace R0
open PySem PySem.Spec PyProof.Rows L2 Hb St Sq Ow En Zp RZ Rd Xb Da
/-! ### what instances leave alone -/
def FixI (H H' : Hp) : Prop := ∀ b o, H b = some o → (∀ C dx fs, o ≠ .ins C dx fs) → H' b = some o
theorem FixI.of {H H' : Hp} (s : Same H H') : FixI H H' := fun b o e _ => s b o e
theorem FixI.trans {H H1 H2 : Hp} (a : FixI H H1) (b : FixI H1 H2) : FixI H H2 := fun c o e n => b c o (a c o e n) n
theorem FixI.ins {H : Hp} {p C dx : Addr} {fs : List (Str × V)} {o : HO} (e : H p = some (.ins C dx fs)) : FixI H (upd H p o) := fun b u eb n => by
  rw [upd_ne fun z => n C dx fs (by rw [z, e] at eb; exact (Option.some.inj eb).symm)]; exact eb
theorem lst_fixI {K : PySem.W.Frag} {H H' : Hp} {a : Addr} {xs : List V} (f : FixI H H') (h : SqL K H a xs) : SqL K H' a xs := by
  rcases h with (e | ⟨o, e⟩) | r
  · exact .inl (.inl (f _ _ e fun _ _ _ z => by cases z))
  · exact .inl (.inr ⟨o, f _ _ e fun _ _ _ z => by cases z⟩)
  · exact .inr r
theorem tup_fixI {K : PySem.W.Frag} {H H' : Hp} {a : Addr} {xs : List V} (f : FixI H H') (h : SqT K H a xs) : SqT K H' a xs := by
  rcases h with (e | ⟨o, e⟩) | r
  · exact .inl (.inl (f _ _ e fun _ _ _ z => by cases z))
  · exact .inl (.inr ⟨o, f _ _ e fun _ _ _ z => by cases z⟩)
  · exact .inr r
mutual
theorem dp_fixI {K : PySem.W.Frag} {H H' : Hp} (s : FixI H H') : ∀ {d : PyData} {v : V}, Dp K H v d → Dp K H' v d
  | _, _, .non => .non
  | _, _, .bl b => .bl b
  | _, _, .int i => .int i
  | _, _, .str x => .str x
  | _, _, .lst h a => .lst (lst_fixI s h) (dpa_fixI s a)
  | _, _, .tup h a => .tup (tup_fixI s h) (dpa_fixI s a)
theorem dpa_fixI {K : PySem.W.Frag} {H H' : Hp} (s : FixI H H') : ∀ {ds : List PyData} {xs : List V}, DpAll K H xs ds → DpAll K H' xs ds
  | _, _, .nil => .nil
  | _, _, .cons h t => .cons (dp_fixI s h) (dpa_fixI s t)
end
theorem dpa_of {K : PySem.W.Frag} {H : Hp} : ∀ {vs : List V} {ds : List PyData}, All2 (Dp K H) vs ds → DpAll K H vs ds
  | _, _, .nil => .nil
  | _, _, .cons h t => .cons h (dpa_of t)
/-! ### dict comprehensions whose items are known -/
def DcW (H1 : Hp) (D : Addr) (kvs : List (Key × V)) (i : Nat) (H : Hp) : Prop := Same H1 H ∧ H D = some (.dK (kvs.take i))
theorem put_new {kvs : List (Key × V)} {k : Key} {z : V} (h : k ∉ kvs.map (·.1)) : putK kvs k z = kvs ++ [(k, z)] := by
  unfold putK
  rw [if_neg]
  intro e
  obtain ⟨p, hp, e⟩ := List.any_eq_true.mp e
  exact h (List.mem_map.mpr ⟨p, hp, of_decide_eq_true e⟩)
theorem dcw_yes {H1 H H' : Hp} {D : Addr} {kvs : List (Key × V)} {i : Nat} {k : Key} {z : V} (m : DcW H1 D kvs i H) (hD : H1 D = none) (nd : (kvs.map (·.1)).Nodup) (e : kvs[i]? = some (k, z)) (hl : kvs.length ≤ 1000) (s : Same H H') :
    ∃ kv k', kV k = kV k' ∧ H' D = some (.dK kv) ∧ kv.length < sizeLine ∧ DcW H1 D kvs (i + 1) (upd H' D (.dK (putK kv k' z))) := by
  have e' := s _ _ m.2
  refine ⟨_, k, rfl, e', ?_, fun b o eb => ?_, ?_⟩
  · have h3 : (kvs.take i).length ≤ kvs.length := by rw [List.length_take]; exact Nat.min_le_right _ _
    rw [sizeLine_eq]; omega
  · rw [upd_ne (ne_of_none eb hD)]; exact s b o (m.1 b o eb)
  · rw [upd_same, put_new, List.take_add_one, e]; rfl
    intro h
    obtain ⟨hi, e1⟩ := List.getElem?_eq_some_iff.mp e
    have := List.take_append_drop i kvs
    rw [List.drop_eq_getElem_cons hi, e1] at this
    rw [← this, List.map_append, List.nodup_append] at nd
    exact nd.2.2 _ h k (by simp) rfl
theorem dc_wk {J : It} {a : Addr} {S : Hp → Prop} {xs : List V} (W : Wk J a S xs) (kvs : List (Key × V)) {g : TG} {tt : TT} {tk tv : TE} {vs : List Nat} {σ : L2.St} {H1 : Hp} {D : Addr} {Qd : Hp → Prop} (hS : S H1) (hD : H1 D = none) (hl : xs.length = kvs.length)
    (hs : ∀ (i : Nat) x k z H, xs[i]? = some x → kvs[i]? = some (k, z) → DcW H1 D kvs i H → g x (wipe σ vs) H fun σ2 H2 => wipe σ2 vs = wipe σ vs ∧ tt σ2 H2 fun b H3 =>
      if b = true then tk σ2 H3 fun y H4 => tv σ2 H4 fun z H5 => ∃ kv k, y = kV k ∧ H5 D = some (.dK kv) ∧ kv.length < sizeLine ∧ DcW H1 D kvs (i + 1) (upd H5 D (.dK (putK kv k z))) else DcW H1 D kvs (i + 1) H3)
    (hd : ∀ H, Same H1 H → H D = some (.dK kvs) → Qd H) :
    ∃ W : Nat → Nat → Hp → Prop, (∃ m, W 0 m (upd H1 D (.dK []))) ∧ ∀ i m H, W i m H →
      (J.stop i H ∧ Qd H) ∨ (J.go i H ∧ ∃ Nx : Hp → Prop, (∀ H', Nx H' → ∃ m', m' < m ∧ W (i + 1) m' H') ∧ ∀ x H', J.yld i H x H' → g x (wipe σ vs) H' fun σ2 H2 => wipe σ2 vs = wipe σ vs ∧ tt σ2 H2 fun b H3 =>
        if b = true then tk σ2 H3 fun y H4 => tv σ2 H4 fun z H5 => ∃ kv k, y = kV k ∧ H5 D = some (.dK kv) ∧ kv.length < sizeLine ∧ Nx (upd H5 D (.dK (putK kv k z))) else Nx H3) := by
  refine ⟨fun i m H => m + i = xs.length ∧ DcW H1 D kvs i H, ⟨xs.length, rfl, fun b o e => by rw [upd_ne (ne_of_none e hD)]; exact e, upd_same⟩, fun i m H ⟨e, p⟩ => ?_⟩
  have st : S H := W.keep (fun o eo => p.1 _ _ eo) hS
  cases m with
  | zero =>
    obtain rfl : i = xs.length := by omega
    refine .inl ⟨W.stop H st, hd H p.1 ?_⟩
    rw [p.2, List.take_of_length_le (by rw [hl]; exact Nat.le_refl _)]
  | succ m =>
    have hi : i < xs.length := by omega
    refine .inr ⟨W.go i H hi st, DcW H1 D kvs (i + 1), fun H' p' => ⟨m, Nat.lt_succ_self m, by omega, p'⟩, fun v H' y => ?_⟩
    obtain ⟨rfl, ed⟩ := W.yld i H v H' hi st y
    obtain ⟨⟨k, z⟩, ek⟩ : ∃ p, kvs[i]? = some p := ⟨_, List.getElem?_eq_getElem (by omega)⟩
    exact hs i v k z _ ed ek p
/-! ### what is wrong of rooms and joins -/
def manyD (d : PyData) : List (Str × Int) := (itemsD d).map fun e => (nmOf e, ((itemsD (tlOf e)).length : Int))
def jsB (dr d : PyData) : Bool := seqD d && (itemsD d).all (jnB (manyD dr))
def rmErr (dr dg dc : PyData) : Option Nat := if arD dr = false then some 0 else if jsB dr dg = false then some 1 else if jsB dr dc = false then some 2 else none
theorem nd_inr {l : List Str} (h : l.Nodup) : (l.map (Sum.inr : Str → Key)).Nodup := by
  induction l with
  | nil => exact List.nodup_nil
  | cons x r ih =>
    obtain ⟨h1, h2⟩ := List.nodup_cons.mp h
    rw [List.map_cons]
    refine List.nodup_cons.mpr ⟨fun z => ?_, ih h2⟩
    obtain ⟨y, hy, e⟩ := List.mem_map.mp z
    exact h1 (Sum.inr.inj e ▸ hy)
theorem tup_of {K : PySem.W.Frag} {H : Hp} {v : V} {d : PyData} (dv : Dp K H v d) (c : seqD d = true) : ∃ p ys, v = .ref p ∧ DpAll K H ys (itemsD d) ∧ (SqL K H p ys ∨ SqT K H p ys) := by
  cases dv with
  | lst h a => exact ⟨_, _, rfl, a, .inl h⟩
  | tup h a => exact ⟨_, _, rfl, a, .inr h⟩
  | _ => cases c
theorem js_seq {dr d : PyData} (h : jsB dr d = true) : seqD d = true := by
  unfold jsB at h
  rw [Bool.and_eq_true] at h
  exact h.1
theorem ar_of {d : PyData} (h : arD d = true) : seqD d = true ∧ (itemsD d).length ≤ 3 ∧ (itemsD d).all rmlD = true ∧ ((itemsD d).map nmOf).Nodup ∧ ((itemsD d).all fun e => taleD (tlOf e)) = true := by
  unfold arD at h
  simp only [Bool.and_eq_true, decide_eq_true_eq] at h
  exact ⟨h.1, h.2.1.2, h.2.2.1, h.2.2.2.1, h.2.2.2.2⟩
theorem many_keys (d : PyData) : (mnK (manyD d)).map (·.1) = ((itemsD d).map nmOf).map Sum.inr := by
  unfold mnK manyD
  rw [List.map_map, List.map_map, List.map_map]; rfl
theorem many_at {d : PyData} {i : Nat} {k : Key} {z : V} (h : (mnK (manyD d))[i]? = some (k, z)) : ∃ e, (itemsD d)[i]? = some e ∧ k = Sum.inr (nmOf e) ∧ z = .int ((itemsD (tlOf e)).length : Int) := by
  unfold mnK manyD at h
  rw [List.map_map, List.getElem?_map] at h
  cases c : (itemsD d)[i]? with
  | none => rw [c] at h; cases h
  | some e =>
    rw [c] at h
    injection h with h
    injection h with h1 h2
    exact ⟨e, rfl, h1.symm, h2.symm⟩
theorem js_of {dr d : PyData} (h1 : seqD d = true) (h2 : (itemsD d).all (jnB (manyD dr)) = true) : jsB dr d = true := by
  unfold jsB
  rw [h1, h2]; rfl
theorem js_no {dr d : PyData} (h1 : seqD d = false) : jsB dr d = false := by
  unfold jsB
  rw [h1]; rfl
theorem js_no2 {dr d : PyData} (h2 : (itemsD d).all (jnB (manyD dr)) = false) : jsB dr d = false := by
  unfold jsB
  rw [h2, Bool.and_false]
theorem err_none {dr dg dc : PyData} (h : arD dr = true) (h1 : jsB dr dg = true) (h2 : jsB dr dc = true) : rmErr dr dg dc = none := by
  unfold rmErr
  rw [if_neg (by rw [h]; decide), if_neg (by rw [h1]; decide), if_neg (by rw [h2]; decide)]
theorem err_0 {dr dg dc : PyData} (h : arD dr = false) : rmErr dr dg dc = some 0 := by
  unfold rmErr
  rw [if_pos h]
theorem err_1 {dr dg dc : PyData} (h : arD dr = true) (h1 : jsB dr dg = false) : rmErr dr dg dc = some 1 := by
  unfold rmErr
  rw [if_neg (by rw [h]; decide), if_pos h1]
theorem err_2 {dr dg dc : PyData} (h : arD dr = true) (h1 : jsB dr dg = true) (h2 : jsB dr dc = false) : rmErr dr dg dc = some 2 := by
  unfold rmErr
  rw [if_neg (by rw [h]; decide), if_neg (by rw [h1]; decide), if_pos h2]
/-- the class of rooms -/
structure RmT (K : PySem.W.Frag) (C : Addr) : Prop where
  cl : Cls K C
  nR : NoAttr K C "rooms"
  nG : NoAttr K C "gongs"
  nC : NoAttr K C "calls"
  x1 : PySem.W.findIn K (.ref C) "__class__" = some (some (.builtin "object.__class__"))
  x2 : PySem.W.specialIn K (.builtin "object.__class__") "__get__" = some (some (.builtin "getset_descriptor.__get__"))
  x3 : PySem.W.takesIn K (.builtin "object.__class__") = some true
  x4 : PySem.W.mroIn K C (.type "object") = some true
  kC : PySem.W.kitOne K (.ref C) (.ref C) = some true
  kS : PySem.W.kitOne K (.type "str") (.ref C) = some false
def errH (at_ : Int) : HO := .xd [(("at" : Str), .int at_)]
/-- rooms that were made, at m -/
def RmAt (K : PySem.W.Frag) (C : Addr) (H : Hp) (m : Addr) (dr dg dc : List PyData) : Prop := ∃ dx a b c, H m = some (.ins C dx [("rooms", .ref a), ("gongs", .ref b), ("calls", .ref c)]) ∧ Dp K H (.ref a) (.tuple dr) ∧ Dp K H (.ref b) (.tuple dg) ∧ Dp K H (.ref c) (.tuple dc)
section
variable {P : Program} {w : World} {K : PySem.W.Frag} {mg : Str → Option Value} {base : Heap}
/-! ### Rooms.__init__ -/
abbrev s_Rooms___init__ : Stmt := inClass (top 20) 0
theorem sc_Rooms___init__ : FnScope ["self", "rooms", "gongs", "calls", "many", "at", "joins", "name", "tale", "join"] ["self", "rooms", "gongs", "calls"] (defScope s_Rooms___init__) := ⟨rfl, rfl, rfl, by decide +kernel, rfl, by decide +kernel, by decide +kernel⟩
def spInit (K : PySem.W.Frag) (C CR : Addr) : Sp := fun vs H Q E => ∃ (x dx : Addr) (vr vg vc : V) (dr dg dc : PyData), vs = [.ref x, vr, vg, vc] ∧ H x = some (.ins C dx []) ∧ Dp K H vr dr ∧ Dp K H vg dg ∧ Dp K H vc dc ∧ SmR dr ∧ SmJs dg ∧ SmJs dc ∧
  (rmErr dr dg dc = none → ∀ H', Kept x H H' → RmAt K C H' x (itemsD dr) (itemsD dg) (itemsD dc) → Q .non H') ∧
  ∀ k : Nat, rmErr dr dg dc = some k → ∀ dd H', Same H H' → H' dd = some (errH k) → E (.ref CR) (some dd) H'
theorem ok_init {f C CR fI eg ec : Addr} {fd : FuncData} (F : FunD K "__init__" "Rooms.__init__" (defArgs s_Rooms___init__) (defBody s_Rooms___init__) (defScope s_Rooms___init__) [.ref eg, .ref ec] [] f fd) (TC : RmT K C) (T : ErrC K mg "InvalidRooms" CR fI) (C_are_rooms : Cl P w K mg base "are_rooms" ["value"] [] 4 (spAreR K w)) (C_is_join : Cl P w K mg base "is_join" ["many", "value"] [] 4 (spJoin K)) (C_is_sequence : Cl P w K mg base "is_sequence" ["value"] [] 1 (spSeq K)) (n_all : mg "all" = none) (n_enumerate : mg "enumerate" = none) (n_len : mg "len" = none) (n_tuple : mg "tuple" = none) : FnOk P w K mg base (L2.CX P w) 5 f fd ["self", "rooms", "gongs", "calls"] (spInit K C CR) := by
  refine F.ok sc_Rooms___init__ (fun vs H Q E h => ?_) (fun cdv A outer s H vs Q E hr h => ?_)
  · obtain ⟨_, _, _, _, _, _, _, _, rfl, _⟩ := h
    rfl
  · obtain ⟨x, dx, vr, vg, vc, dr, dg, dc, rfl, hx, dvr, dvg, dvc, smr, smg, smc, q, qe⟩ := h
    refine ⟨_, (Evl.pss_cut (ps_if (pt_not (pt_val (pe_use C_are_rooms (hr.mono (by decide)) rfl (pa_cons (pv 1) pa_nil)))) (pss_one (ps_raiseAt rfl T hr (takes_of rfl rfl rfl rfl) (pa_cons pe_int pa_nil) rfl)) pss_nil)
    (pss_cons (ps_set (i := 4) sc_Rooms___init__.nd rfl (Or.inr rfl) (pe_dc (own := [("name", 7), ("tale", 8)]) (g := gTup K 2 (gCons (gName 7) (gCons (gName 8) gNil))) rfl sc_Rooms___init__.nd (pi_seq (pv 1)) (blkOk_by (N := ["self", "rooms", "gongs", "calls", "many", "at", "joins", "name", "tale", "join"]) (sc := defScope s_Rooms___init__) (by decide +kernel)) (fun _ _ _ _ _ => pg_tup rfl (pgs_cons (pg_name (i := 7) sc_Rooms___init__.nd rfl (Or.inl rfl)) (pgs_cons (pg_name (i := 8) sc_Rooms___init__.nd rfl (Or.inl rfl)) pgs_nil))) (fun _ _ _ _ _ => pts_nil) (fun _ _ _ _ _ => pv 7) (fun _ _ _ _ _ => pe_callB (id := "len") (r := rLenK K) call_len_seq (by rfl) n_len PySem.boot_len (pa_cons (pv 8) pa_nil))))
    (Evl.pss_cut (ps_for (passes_of rfl) rfl (pi_enumT (by rfl) n_enumerate (pa_cons (pe_tup (pa_cons (pv 2) (pa_cons (pv 3) pa_nil))) pa_nil)) (pg_tup rfl (pgs_cons (pg_name (i := 5) sc_Rooms___init__.nd rfl (Or.inl rfl)) (pgs_cons (pg_name (i := 6) sc_Rooms___init__.nd rfl (Or.inl rfl)) pgs_nil)))
      (pss_one (ps_if (PW.pt (pw_or (pt_not (pt_val (pe_use C_is_sequence (hr.mono (by decide)) rfl (pa_cons (pv 6) pa_nil)))) (pw_or1 (pt_not (pt_val (pe_callB (cr_all rfl) (by rfl) n_all (by decide +kernel) (pa_cons (pe_lc (own := [("join", 9)]) (g := gName 9) rfl sc_Rooms___init__.nd (pi_seq (pv 6)) (blkOk_by (N := ["self", "rooms", "gongs", "calls", "many", "at", "joins", "name", "tale", "join"]) (sc := defScope s_Rooms___init__) (by decide +kernel)) (fun _ _ _ _ _ => pg_name (i := 9) sc_Rooms___init__.nd rfl (Or.inl rfl)) (fun _ _ _ _ _ => pts_nil) (fun _ _ _ _ _ => pe_use C_is_join (hr.mono (by decide)) rfl (pa_cons (pv 4) (pa_cons (pv 9) pa_nil)))) pa_nil))))))) (pss_one (ps_raiseAt rfl T hr (takes_of rfl rfl rfl rfl) (pa_cons (pe_op op_add (pv 5) pe_int) pa_nil) rfl)) pss_nil)))
    (Evl.pss_cut (ps_fld (pv 0) (pe_callTy call_tuple_of (by rfl) n_tuple (by decide +kernel) (pa_cons (pv 1) pa_nil)) rfl)
    (Evl.pss_cut (ps_fld (pv 0) (pe_callTy call_tuple_of (by rfl) n_tuple (by decide +kernel) (pa_cons (pv 2) pa_nil)) rfl)
    (pss_one (ps_fld (pv 0) (pe_callTy call_tuple_of (by rfl) n_tuple (by decide +kernel) (pa_cons (pv 3) pa_nil)) rfl))))))), ?_⟩
    refine ⟨fun σ H' => σ = [some (.ref x), some vr, some vg, some vc, none, none, none, none, none, none] ∧ Same H H' ∧ arD dr = true, ?_, ?_⟩
    · refine ⟨_, rfl, vr, dr, rfl, dvr, smr, fun H1 s1 => ⟨_, rfl, ?_⟩⟩
      cases c : arD dr with
      | true => exact iteF ⟨rfl, s1, rfl⟩
      | false => exact iteT ⟨_, rfl, fun dd hn => qe 0 (err_0 c) dd _ (s1.trans (same_new hn _)) upd_same⟩
    rintro σ H1 ⟨rfl, s1, c1⟩
    obtain ⟨sq, l3, allR, nd, allT⟩ := ar_of c1
    obtain ⟨ra, rxs, rfl, hrx, ral⟩ := seq_of (dp_same s1 dvr) sq
    refine ⟨_, rfl, ra, rxs, rfl, hrx, fun J S W s0 D hD => ?_⟩
    refine dc_wk W (mnK (manyD dr)) s0 hD (by unfold mnK manyD; rw [List.length_map, List.length_map]; exact ral.len) (fun i y k z H2 ey ek m => ?_) (fun H2 s2 eD => ?_)
    · obtain ⟨e, ee, rfl, rfl⟩ := many_at ek
      have re := List.all_eq_true.mp allR e (at_mem ee)
      have te := List.all_eq_true.mp allT e (at_mem ee)
      obtain ⟨b, x', t, vt, rfl, rfl, hb, ht, nx⟩ := rml_of (dp_same m.1 (at2 ral ey ee)) re
      have te : taleD t = true := te
      cases ht with
      | @tup tb ys ds h1 h2 =>
        refine ⟨b, _, rfl, hb, rfl, _, _, rfl, _, _, rfl, rfl, rfl, _, rfl, _, rfl, tb, _, rfl, .inr h1, ?_⟩
        rw [(dpa_all h2).len]
        exact dcw_yes m hD (by rw [many_keys]; exact nd_inr nd) ek (by unfold mnK manyD; rw [List.length_map, List.length_map]; omega) (Same.refl _)
      | _ => cases te
    have s12 := s1.trans s2
    refine ⟨fun σ H' => (∃ o5 o6, σ = [some (.ref x), some (.ref ra), some vg, some vc, some (.ref D), o5, o6, none, none, none]) ∧ Same H2 H' ∧ jsB dr dg = true ∧ jsB dr dc = true, ?_, ?_⟩
    · refine ⟨_, rfl, _, rfl, by show 2 ≤ sizeLine; decide, fun t ht => ⟨t, rfl, ⟨_, SqT.of upd_same⟩, ?_⟩⟩
      have s3 := same_new ht (.tup [vg, vc])
      have et : upd H2 t (.tup [vg, vc]) t = some (.tup [vg, vc]) := upd_same
      generalize upd H2 t (.tup [vg, vc]) = H3 at s3 et ⊢
      refine for_en en_tup (fun i σ H' => (∃ o5 o6, σ = [some (.ref x), some (.ref ra), some vg, some vc, some (.ref D), o5, o6, none, none, none]) ∧ Same H3 H' ∧ (1 ≤ i → jsB dr dg = true) ∧ (2 ≤ i → jsB dr dc = true)) ⟨⟨none, none, rfl⟩, Same.refl _, fun z => absurd z (by decide), fun z => absurd z (by decide)⟩ (fun i σ H' pv => SqT.of (pv.2.1 _ _ et)) ?_ ?_
      · rintro i σ H4 y T ey ⟨⟨o5, o6, rfl⟩, s4, j1, j2⟩ hT
        have s5 := same_new hT (.tup [.int (i : Nat), y])
        have s35 := (s3.trans s4).trans s5
        have s05 := s12.trans s35
        obtain ⟨d, dv, sd, fail, good⟩ : ∃ d, Dp K H y d ∧ SmJs d ∧ (jsB dr d = false → rmErr dr dg dc = some (i + 1)) ∧ (jsB dr d = true → (1 ≤ i + 1 → jsB dr dg = true) ∧ (2 ≤ i + 1 → jsB dr dc = true)) := by
          match i, ey, j1 with
          | 0, ey, _ =>
            obtain rfl : vg = y := Option.some.inj ey
            exact ⟨dg, dvg, smg, fun z => err_1 c1 z, fun z => ⟨fun _ => z, fun z => absurd z (by decide)⟩⟩
          | 1, ey, j1 =>
            obtain rfl : vc = y := Option.some.inj ey
            exact ⟨dc, dvc, smc, fun z => err_2 c1 (j1 (by decide)) z, fun z => ⟨fun _ => j1 (by decide), fun _ => z⟩⟩
          | n + 2, ey, _ => cases ey
        refine ⟨T, _, rfl, SqT.of upd_same, rfl, _, _, rfl, _, _, rfl, rfl, ?_⟩
        generalize upd H4 T (.tup [.int (i : Nat), y]) = H5 at s5 s35 s05 ⊢
        have eD5 := s35 _ _ eD
        refine ⟨_, rfl, y, d, rfl, dp_same s05 dv, fun H6 s6 => ⟨_, rfl, ?_⟩⟩
        have raise : ∀ {H7 : Hp} {dd : Addr}, Same H H7 → H7 dd = none → jsB dr d = false → E (.ref CR) (some dd) (upd H7 dd (.xd [(("at" : Str), .int ((i : Nat) + 1 : Int))])) := fun {H7 dd} s7 hn c => by
          have e1 : (.int ((i : Nat) + 1 : Int) : V) = .int ((i + 1 : Nat) : Int) := by congr 1
          rw [e1]
          exact qe (i + 1) (fail c) dd _ (s7.trans (same_new hn _)) upd_same
        cases c2 : seqD d with
        | false => exact iteT ⟨_, rfl, _, _, rfl, rfl, _, rfl, fun dd hn => raise (s05.trans s6) hn (js_no c2)⟩
        | true =>
          obtain ⟨ja, jxs, rfl, hjx, jal⟩ := seq_of (dp_same (s05.trans s6) dv) c2
          refine iteF ⟨_, rfl, ja, jxs, rfl, hjx, fun J S W s0 D2 hD2 => ?_⟩
          refine lc_mf (ds := itemsD d) W (fun _ => true) (fun _ y e => y = .bl (jnB (manyD dr) e)) s0 hD2 jal.len (fun i' x' e H7 ex ee s7 m => ?_) (fun H7 ys s7 e7 al2 => ?_)
          · refine ⟨rfl, _, rfl, _, rfl, D, manyD dr, x', e, rfl, s7 _ _ (s6 _ _ eD5), dp_same s7 (at2 jal ex ee), sd.2 e (at_mem ee), fun H8 s8 => ?_⟩
            exact mf_yes m hD2 (fun _ _ _ _ _ h => h) ee (by have := sd.1; omega) s8 rfl rfl
          · rw [Rd.filter_all] at al2
            have ey2 := bl_map al2
            refine ⟨D2, _, rfl, SqL.of (by rw [← ey2]; exact e7), _, rfl, ?_⟩
            rw [all_map]
            cases c3 : (itemsD d).all (jnB (manyD dr)) with
            | true =>
              have g := good (js_of c2 c3)
              exact iteF ⟨⟨_, _, rfl⟩, ((s4.trans s5).trans s6).trans s7, g.1, g.2⟩
            | false => exact iteT ⟨_, rfl, _, _, rfl, rfl, _, rfl, fun dd hn => raise ((s05.trans s6).trans s7) hn (js_no2 c3)⟩
      · rintro σ H4 ⟨h1, s4, j1, j2⟩
        exact ⟨h1, s3.trans s4, j1 (show 1 ≤ 2 by decide), j2 (show 2 ≤ 2 by decide)⟩
    rintro σ H3 ⟨⟨o5, o6, rfl⟩, s3, j1, j2⟩
    have s13 := s12.trans s3
    have q := q (err_none c1 j1 j2)
    have hx3 := s13 _ _ hx
    let σ1 : L2.St := [some (.ref x), some (.ref ra), some vg, some vc, some (.ref D), o5, o6, none, none, none]
    refine ⟨fun σ H' => σ = σ1 ∧ Kept x H H' ∧ FixI H H' ∧ ∃ pa, H' x = some (.ins C dx [("rooms", .ref pa)]) ∧ Dp K H' (.ref pa) (.tuple (itemsD dr)), ?_, ?_⟩
    · have step : ∀ pa H4, Same H3 H4 → Dp K H4 (.ref pa) (.tuple (itemsD dr)) → H4 x = some (.ins C dx []) ∧ (σ1 = σ1 ∧ Kept x H (upd H4 x (.ins C dx (putF "rooms" (.ref pa) []))) ∧ FixI H (upd H4 x (.ins C dx (putF "rooms" (.ref pa) []))) ∧ ∃ pa', (upd H4 x (.ins C dx (putF "rooms" (.ref pa) []))) x = some (.ins C dx [("rooms", .ref pa')]) ∧ Dp K (upd H4 x (.ins C dx (putF "rooms" (.ref pa) []))) (.ref pa') (.tuple (itemsD dr))) := fun pa H4 s4 d4 =>
        ⟨s4 _ _ hx3, rfl, (Hb.Same.kept (s13.trans s4)).trans kept_upd, (FixI.of (s13.trans s4)).trans (FixI.ins (s4 _ _ hx3)), pa, upd_same, dp_fixI (FixI.ins (s4 _ _ hx3)) d4⟩
      obtain ⟨p, ys, e, a, h | h⟩ := tup_of (dp_same s13 dvr) sq
      · refine ⟨_, rfl, p, ys, by rw [e], .inl ⟨h, fun l hl => ?_⟩⟩
        have z := step l _ (same_new hl _) (.tup (SqT.of upd_same) (dpa_same (same_new hl _) a))
        exact ⟨_, rfl, x, C, dx, _, rfl, z.1, TC.cl, TC.nR, (by show 0 < 1000; decide), z.2⟩
      · have z := step p _ (Same.refl _) (.tup h a)
        exact ⟨_, rfl, p, ys, by rw [e], .inr ⟨h, _, rfl, x, C, dx, _, rfl, z.1, TC.cl, TC.nR, (by show 0 < 1000; decide), z.2⟩⟩
    rintro σ H5 ⟨rfl, k5, f5, pa, hx5, d5⟩
    refine ⟨fun σ H' => σ = σ1 ∧ Kept x H H' ∧ FixI H H' ∧ ∃ pa pb, H' x = some (.ins C dx [("rooms", .ref pa), ("gongs", .ref pb)]) ∧ Dp K H' (.ref pa) (.tuple (itemsD dr)) ∧ Dp K H' (.ref pb) (.tuple (itemsD dg)), ?_, ?_⟩
    · have step : ∀ pb H4, Same H5 H4 → Dp K H4 (.ref pb) (.tuple (itemsD dg)) → H4 x = some (.ins C dx [("rooms", .ref pa)]) ∧ (σ1 = σ1 ∧ Kept x H (upd H4 x (.ins C dx (putF "gongs" (.ref pb) [("rooms", .ref pa)]))) ∧ FixI H (upd H4 x (.ins C dx (putF "gongs" (.ref pb) [("rooms", .ref pa)]))) ∧ ∃ pa' pb', (upd H4 x (.ins C dx (putF "gongs" (.ref pb) [("rooms", .ref pa)]))) x = some (.ins C dx [("rooms", .ref pa'), ("gongs", .ref pb')]) ∧
          Dp K (upd H4 x (.ins C dx (putF "gongs" (.ref pb) [("rooms", .ref pa)]))) (.ref pa') (.tuple (itemsD dr)) ∧ Dp K (upd H4 x (.ins C dx (putF "gongs" (.ref pb) [("rooms", .ref pa)]))) (.ref pb') (.tuple (itemsD dg))) := fun pb H4 s4 d4 =>
        ⟨s4 _ _ hx5, rfl, (k5.trans (Hb.Same.kept s4)).trans kept_upd, (f5.trans (FixI.of s4)).trans (FixI.ins (s4 _ _ hx5)), pa, pb, upd_same, dp_fixI (FixI.ins (s4 _ _ hx5)) (dp_same s4 d5), dp_fixI (FixI.ins (s4 _ _ hx5)) d4⟩
      obtain ⟨p, ys, e, a, h | h⟩ := tup_of (dp_fixI f5 dvg) (js_seq j1)
      · refine ⟨_, rfl, p, ys, by rw [e], .inl ⟨h, fun l hl => ?_⟩⟩
        have z := step l _ (same_new hl _) (.tup (SqT.of upd_same) (dpa_same (same_new hl _) a))
        exact ⟨_, rfl, x, C, dx, _, rfl, z.1, TC.cl, TC.nG, (by show 1 < 1000; decide), z.2⟩
      · have z := step p _ (Same.refl _) (.tup h a)
        exact ⟨_, rfl, p, ys, by rw [e], .inr ⟨h, _, rfl, x, C, dx, _, rfl, z.1, TC.cl, TC.nG, (by show 1 < 1000; decide), z.2⟩⟩
    rintro σ H7 ⟨rfl, k7, f7, pa, pb, hx7, d7, e7⟩
    have step : ∀ pc H4, Same H7 H4 → Dp K H4 (.ref pc) (.tuple (itemsD dc)) → H4 x = some (.ins C dx [("rooms", .ref pa), ("gongs", .ref pb)]) ∧ Q .non (upd H4 x (.ins C dx (putF "calls" (.ref pc) [("rooms", .ref pa), ("gongs", .ref pb)]))) := fun pc H4 s4 d4 => by
      have f9 := FixI.ins (o := .ins C dx (putF "calls" (.ref pc) [("rooms", .ref pa), ("gongs", .ref pb)])) (s4 _ _ hx7)
      exact ⟨s4 _ _ hx7, q _ ((k7.trans (Hb.Same.kept s4)).trans kept_upd) ⟨dx, pa, pb, pc, upd_same, dp_fixI f9 (dp_same s4 d7), dp_fixI f9 (dp_same s4 e7), dp_fixI f9 d4⟩⟩
    obtain ⟨p, ys, e, a, h | h⟩ := tup_of (dp_fixI f7 dvc) (js_seq j2)
    · refine ⟨_, rfl, p, ys, by rw [e], .inl ⟨h, fun l hl => ?_⟩⟩
      have z := step l _ (same_new hl _) (.tup (SqT.of upd_same) (dpa_same (same_new hl _) a))
      exact ⟨_, rfl, x, C, dx, _, rfl, z.1, TC.cl, TC.nC, (by show 2 < 1000; decide), z.2⟩
    · have z := step p _ (Same.refl _) (.tup h a)
      exact ⟨_, rfl, p, ys, by rw [e], .inr ⟨h, _, rfl, x, C, dx, _, rfl, z.1, TC.cl, TC.nC, (by show 2 < 1000; decide), z.2⟩⟩
end
end R0

/-! != by an own __eq__ (no own __ne__); == and != with a text on the other side -/
namespace Ow
open PySem PySem.Spec PyProof.Rows L2 Hb PySem.SeqAt
section
variable {M : Model} {prog : Program} {w : World} {A : Around} {E : Value → Shared → Prop} {s : Shared} {K : PySem.W.Frag} {x C f : Addr} {ox : Obj} {od : Option Obj} {b tb : Value}
theorem ifBound_objNe {args : List Value} {Q : Option Value → Shared → Prop} (X : K.In s.heap) (I : PySem.W.InstAt s.heap x ox C od) (hs : PySem.W.findIn K (.ref C) "__ne__" = some (some (.builtin "object.__ne__")))
    (h : wpAny M A (call (.builtin "object.__ne__") (.ref x :: args)) (fun v => Q (some v)) E s) : wpAny M A (callSpecialIfBound? (.ref x) "__ne__" args) Q E s := by
  simp only [callSpecialIfBound?, bindSpecialIfBound?]
  refine wpAny_holding (wpAny_bind (wpAny_bind (wpAny_bind (I.type.here ((PySem.W.looks_findIn X hs).here ?_)))))
  refine wpAny_bind (wpAny_askSetting (wpAny_ite ?_))
  have fin : wpAny M A (call (.builtin "object.__ne__") ([.ref x] ++ args) >>= fun v => pure (some v)) Q E s := wpAny_bind (wpAny_mono h (fun v s' h' => wpAny_pure h') fun _ _ h' => h')
  split
  · exact wpAny_bind (wpAny_of_eq (F.cmp_object.ne.bind _) (wpAny_pure (by exact fin)))
  · exact wpAny_tryCatch (wpAny_bind (wpAny_of_eq (F.cmp_object.ne.bind _) (wpAny_pure (by exact fin))))
theorem objNe_entryK (X : K.In s.heap) (I : PySem.W.InstAt s.heap x ox C od) (hs : PySem.W.findIn K (.ref C) "__eq__" = some (some (.ref f))) (hf : PySem.W.isFn K (.ref f) = true) (hu : A.units < cLine) {Q : Fin → Shared → Prop}
    (hcall : wpAny (model prog w) A (call (.ref f) [.ref x, b]) (fun v s' => ∃ k, v = .bool k ∧ Q (.done (.ret (.bool (!k)))) s') E s) :
    wpAny (model prog w) A (Builtin.«object.__ne__» ⟨[.ref x, b], []⟩) Q E s := by
  unfold Builtin.«object.__ne__»
  repeat (first
    | with_reducible refine wpAny_cRoomFor hu ?_
    | (refine wpAny_bind (m := callSpecialIfBound? (.ref x) (Str.ofString "__eq__") [b])
        (PySem.W.ifBound_K X I hs hf (wpAny_mono hcall (fun v s' hr => by
          obtain ⟨k, rfl, hq⟩ := hr
          repeat (first | exact hq | exact wpAny_pure hq | exact wpAny_truthy_bool hq | (refine wpAny_bind (m := truthy (.bool _)) (wpAny_truthy_bool ?_)) | wp_step)) fun _ _ e => e)))
    | wp_step)
theorem tryNe_K (X : K.In s.heap) (I : PySem.W.InstAt s.heap x ox C od) (hs : PySem.W.findIn K (.ref C) "__eq__" = some (some (.ref f))) (hf : PySem.W.isFn K (.ref f) = true) (hn : PySem.W.findIn K (.ref C) "__ne__" = some (some (.builtin "object.__ne__"))) (hm : PySem.W.mroIn K C (.type "object") = some true) (hu : A.units + 1 < cLine) {Q : Value → Shared → Prop}
    (hcall : wpAny (model prog w) A.in1 (call (.ref f) [.ref x, b]) (fun v s' => ∃ k, v = .bool k ∧ Q (.bool (!k)) s') E s) :
    wpAny (model prog w) A (tryCompare (.ref x) "__ne__" b) (fun r s' => ∃ v, r = some v ∧ Q v s') E s := by
  unfold tryCompare
  refine wpAny_bind (ifBound_objNe X I hn (wpAny_call (codeAny_call_builtin F.cmp_object.ne.plain F.cmpEntry_ne (PySem.W.check_slot F.cmpKind_ne F.cmpSplit_ne (I.type.andThen (PySem.W.looks_mroIn X hm)) (F.cmpArgs_ne _ _)
    (objNe_entryK (A := A.in1) X I hs hf hu (wpAny_mono hcall (fun v s' hv => ?_) fun _ _ e => e))))))
  obtain ⟨k, rfl, hq⟩ := hv
  first | exact ⟨k, rfl, wpAny_pure ⟨_, rfl, hq⟩⟩ | exact ⟨k, rfl, wpAny_pure (wpAny_pure ⟨_, rfl, hq⟩)⟩ | exact ⟨k, rfl, ⟨_, rfl, hq⟩⟩
theorem ne_K {Q : Value → Shared → Prop} (hu : A.units + 1 < cLine) (X : K.In s.heap) (I : PySem.W.InstAt s.heap x ox C od) (hb : PySem.W.Looks (model prog w) s.heap (typeOf b) tb) (hnf : PySem.W.notFirst K C tb = true)
    (hs : PySem.W.findIn K (.ref C) "__eq__" = some (some (.ref f))) (hf : PySem.W.isFn K (.ref f) = true) (hn : PySem.W.findIn K (.ref C) "__ne__" = some (some (.builtin "object.__ne__"))) (hm : PySem.W.mroIn K C (.type "object") = some true)
    (hcall : wpAny (model prog w) A.in1 (call (.ref f) [.ref x, b]) (fun v s' => ∃ k, v = .bool k ∧ Q (.bool (!k)) s') E s) : wpAny (model prog w) A (richCompare .NotEq (.ref x) b) Q E s := by
  have one := tryNe_K (A := A) X I hs hf hn hm hu hcall
  unfold richCompare
  simp only [oneThing_ref]
  refine wpAny_holding (wpAny_bind (wpAny_cRoomFor (Nat.lt_of_succ_lt hu) ?_))
  rw [cmpInfo_NotEq]
  dsimp only
  refine wpAny_bind (I.type.here (wpAny_bind (hb.here ?_)))
  split
  · rename_i q
    have e : PySem.W.subIn K tb (.ref C) = some false := by
      rcases Bool.or_eq_true_iff.mp hnf with e | e
      · rw [beq_iff_eq.mp e] at q; simp at q
      · exact beq_iff_eq.mp e
    refine wpAny_bind ((PySem.W.looks_subIn X e).here ?_)
    simp only [Bool.false_eq_true, if_false]
    refine wpAny_bind (wpAny_mono one (fun r s' z => ?_) fun _ _ e => e)
    obtain ⟨v, rfl, hq⟩ := z
    exact wpAny_pure hq
  · refine wpAny_bind (wpAny_pure ?_)
    simp only [Bool.false_eq_true, if_false]
    refine wpAny_bind (wpAny_mono one (fun r s' z => ?_) fun _ _ e => e)
    obtain ⟨v, rfl, hq⟩ := z
    exact wpAny_pure hq
end
/-- what the own __eq__ needs of the class -/
structure EqC (K : PySem.W.Frag) (C : Addr) : Prop where
  sS : PySem.W.subIn K (.type "str") (.ref C) = some false
  ne : PySem.W.findIn K (.ref C) "__ne__" = some (some (.builtin "object.__ne__"))
  mo : PySem.W.mroIn K C (.type "object") = some true
def OtherE (C : Addr) (H : Hp) (y : V) : Prop := (∃ b dy gs, y = .ref b ∧ H b = some (.ins C dy gs)) ∨ ∃ z, y = .str z
def rEqO (C : Addr) (sp : Sp) : R2 := fun x y H Q => ∃ a dx fs, x = .ref a ∧ H a = some (.ins C dx fs) ∧ OtherE C H y ∧ sp [x, y] H (fun v H' => (∃ k, v = .bl k) ∧ Q v H') E0
def rNeO (C : Addr) (sp : Sp) : R2 := fun x y H Q => ∃ a dx fs, x = .ref a ∧ H a = some (.ins C dx fs) ∧ OtherE C H y ∧ sp [x, y] H (fun v H' => ∃ k, v = .bl k ∧ Q (.bl (!k)) H') E0
theorem other_looks {X : Cx} {pins : List (Addr × Obj)} {σ : L2.St} {H : Hp} {s : Shared} {C : Addr} {y : V} {u : Value} (T : EqC X.K C) (I : Inv X pins σ H s) (r : RelV y u) (o : OtherE C H y) : ∃ tb, PySem.W.Looks (model X.prog X.w) s.heap (typeOf u) tb ∧ PySem.W.notFirst X.K C tb = true := by
  rcases o with ⟨b, dy, gs, rfl, hy⟩ | ⟨z, rfl⟩
  · cases r
    obtain ⟨mB, J', _⟩ := ins_get I.hok hy
    obtain ⟨od', J', _⟩ := J'.look
    exact ⟨_, J'.type, by simp [PySem.W.notFirst]⟩
  · obtain ⟨t, rfl⟩ := (show ∃ t, u = Value.str z t from r)
    exact ⟨.type "str", fun A Q E s' k q => wpAny_typeOf (T := "str") rfl q, by simp [PySem.W.notFirst, T.sS]⟩
section
variable {X : Cx} {C : Addr} {ps : List Str} {lv : Nat} {sp : Sp}
theorem op_eqO (M : Ch X.prog X.w X.K X.mg X.base C "__eq__" ps [] lv sp) (T : EqC X.K C) (hr : Room lv X.A) : OpR X (compareOp .Eq) (rEqO C sp) := by
  obtain ⟨f, fd, ds, hm, F, hb, hd⟩ := M.ex
  cases hd
  intro pins s σ H x y v u Q I rx ry h
  obtain ⟨a, dx, fs, rfl, ha, hy, q⟩ := h
  cases rx
  obtain ⟨mA, J, _⟩ := ins_get I.hok ha
  obtain ⟨od, J, _⟩ := J.look
  obtain ⟨m, hF⟩ := I.fr
  have run : wpAny (model X.prog X.w) X.A (call (.ref f) [.ref a, u]) (PySem.W.CmpBack (EP X pins σ Q)) X.xe s := by
    have hl := F.len _ _ _ _ q
    have bb := hb s [.ref a, u] I.kIn (by simpa using hl)
    refine wpAny_call (codeAny_mono (F.run X.A X.stack s H ⟨[.ref a, u], []⟩ [.ref a, u] [.ref a, y] _ E0 hr I.env0 (by simpa using bb) (.cons rfl (.cons ry .nil)) q) fun r s' z => ?_)
    rcases r with e | (_ | _ | _ | w)
    · exact pass0 pins σ H s e s' I z
    · exact False.elim z
    · exact False.elim z
    · exact False.elim z
    · obtain ⟨v, H', I', rv, ⟨k, rfl⟩, q'⟩ := I.after z
      obtain rfl : w = Value.bool k := rv
      exact ⟨.bl k, H', I', rfl, q'⟩
  obtain ⟨tb, lk, nf⟩ := other_looks T I ry hy
  show wpAny (model X.prog X.w) X.A (richCompare .Eq (.ref a) u) (EP X pins σ Q) X.xe s
  exact PySem.W.cmp_K (op := .Eq) hr.units0 hF I.ok.mod.kin J lk nf hm.at_ hm.fn run
theorem op_neO (M : Ch X.prog X.w X.K X.mg X.base C "__eq__" ps [] lv sp) (T : EqC X.K C) (hr : Room (lv + 1) X.A) : OpR X (compareOp .NotEq) (rNeO C sp) := by
  obtain ⟨f, fd, ds, hm, F, hb, hd⟩ := M.ex
  cases hd
  intro pins s σ H x y v u Q I rx ry h
  obtain ⟨a, dx, fs, rfl, ha, hy, q⟩ := h
  cases rx
  obtain ⟨mA, J, _⟩ := ins_get I.hok ha
  obtain ⟨od, J, _⟩ := J.look
  have run : wpAny (model X.prog X.w) X.A.in1 (call (.ref f) [.ref a, u]) (fun v s' => ∃ k, v = .bool k ∧ EP X pins σ Q (.bool (!k)) s') X.xe s := by
    have hl := F.len _ _ _ _ q
    have bb := hb s [.ref a, u] I.kIn (by simpa using hl)
    refine wpAny_call (codeAny_mono (F.run X.A.in1 X.stack s H ⟨[.ref a, u], []⟩ [.ref a, u] [.ref a, y] _ E0 hr.in1 (by have e := I.env0; exact ⟨e.frames, e.mod, e.bs, e.bsz, e.funs, e.frf, e.hok, e.bare⟩) (by simpa using bb) (.cons rfl (.cons ry .nil)) q) fun r s' z => ?_)
    rcases r with e | (_ | _ | _ | w)
    · exact pass0 pins σ H s e s' I z
    · exact False.elim z
    · exact False.elim z
    · exact False.elim z
    · obtain ⟨v, H', I', rv, k, rfl, q'⟩ := I.after z
      obtain rfl : w = Value.bool k := rv
      exact ⟨k, rfl, .bl (!k), H', I', rfl, q'⟩
  obtain ⟨tb, lk, nf⟩ := other_looks T I ry hy
  show wpAny (model X.prog X.w) X.A (richCompare .NotEq (.ref a) u) (EP X pins σ Q) X.xe s
  exact ne_K (hu_of hr) I.kIn J lk nf hm.at_ hm.fn T.ne T.mo run
end
end Ow

/-! errors of classes of the program's own, over KeyError, whose __init__ keeps one thing: self.name = name -/
namespace Xk
open PySem PySem.W PySem.Calls PyProof.Rows PySem.HandSPX
abbrev exB : List Value := [.type "KeyError", .type "LookupError", .type "Exception", .type "BaseException", .type "object"]
theorem st_key : StoreFacts "KeyError" exB "object.__setattr__" "object" where
  mro := by kernel_rfl
  slot := .of (T := "KeyError") (owner := "object") (name := "__setattr__") (n := "__setattr__") (by rw [typeLookup_type, builtinLookup_eq_fast]; kernel_rfl)
    (by decide +kernel) (by decide +kernel) (by decide +kernel) (by first | exact .inl (by decide +kernel) | exact .inr (by decide +kernel))
    (by rw [isSubtype_type]; kernel_rfl)
  entry := F.entry_object_sa
  kind := by decide +kernel
  split := by decide +kernel
  hasOwner := by decide +kernel
  args := fun a b c => by unfold argsOk; kernel_rfl
  passes := fun me => by kernel_rfl
/-! a class over KeyError, made: LookupError's __new__, then the own __init__ -/
section
variable {prog : Program} {w : World} {A : Around} {E : Value → Shared → Prop} {R : Result → Shared → Prop} {hp : Heap} {g : Array GenState} {dr : Drawn} {t : Nat} {os : OsState} {nm q : Str} {C N : Addr} {bs : List Value} {hx : Bool} {sn : List Str} {sub : List Value} {ab : Bool} {col : Option Bool} {dd : Option Addr} {k0 k1 k2 k3 k5 : Option Value} {us : List Value} {fI : Addr}
abbrev keyCls (nm q : Str) (C N : Addr) (bs : List Value) (hx : Bool) (sn : List Str) (sub : List Value) (ab : Bool) (col : Option Bool) (dd : Option Addr) (k0 k1 k2 k3 k5 : Option Value) : Obj := excClassObj nm q C N bs exB hx sn sub ab col dd k0 k1 k2 k3 k5 "LookupError.__new__"
theorem has_look (C : Addr) : (Value.ref C :: exB).contains (.type "LookupError") = true := by rw [List.contains_cons]; rfl
theorem has_noAtt (C : Addr) : (Value.ref C :: exB).contains (.type "AttributeError") = false := by rw [List.contains_cons]; rfl
theorem has_noNam (C : Addr) : (Value.ref C :: exB).contains (.type "NameError") = false := by rw [List.contains_cons]; rfl
theorem key_check {Q : Unit → Shared → Prop} (gC : hp.get? C = some (keyCls nm q C N bs hx sn sub ab col dd k0 k1 k2 k3 k5)) (z : Q () ⟨hp, g, dr, t, os⟩) :
    wpAny (model prog w) A (checkBuiltinCall "LookupError.__new__" ⟨.ref C :: us, []⟩) Q E ⟨hp, g, dr, t, os⟩ := by
  have T := F.excBase_LookupError
  have h1 := has_look C
  have h2 := T.noStar
  simp only [checkBuiltinCall, T.newKind, T.newSplit, T.newRow]
  repeat (first | refine wpAny_loadPart_at gC ?_ | (refine wpAny_isSubtype_exc gC ?_; rw [h1]) | refine wpAny_staticBase_exc gC ?_ | refine wpAny_madeBy_exc gC ?_
                | simp only [bne_self_eq_false, Bool.false_eq_true, if_false] | wp_step)
  exact z
theorem key_new (gC : hp.get? C = some (keyCls nm q C N bs hx sn sub ab col dd k0 k1 k2 k3 k5)) (lz : us.length ≤ sizeLine)
    (z : R (.ok (.ret (.ref (hp.objs.size + 1)))) ⟨(hp.push (kdv_tup us)).push (excO C hp.objs.size), g, dr, t, os⟩) :
    codeAny (model prog w) A (.builtin "LookupError.__new__" ⟨.ref C :: us, []⟩) R ⟨hp, g, dr, t, os⟩ := by
  have T := F.excBase_LookupError
  have h0 := T.ends
  have h1 := has_look C
  have h2 := has_noAtt C
  have h3 := has_noNam C
  refine codeAny_builtinAt T.entry ?_
  unfold Builtin.«BaseException.__new__»
  refine PySem.wpAt_bind ?_
  show PySem.wpAt _ _ _ (stack >>= _) _ _ _
  refine PySem.wpAt_bind (PySem.wpAt_stack fun u v => PySem.wpAt_of_wpAny ?_)
  wp_walk
  refine PySem.wpAt_of_wpAny ?_
  rw [T.owner]
  repeat (first | with_reducible refine wpAny_madeHere_exc T.canon gC ?_ | with_reducible refine wpAny_loadPart_at gC ?_
                | (with_reducible refine wpAny_isSubtype_exc gC ?_; first | rw [h1] | rw [h2] | rw [h3]) | wp_step)
  show R _ _
  rw [Heap.size_push]
  exact z
theorem key_type {Q : Fin → Shared → Prop} (gC : hp.get? C = some (keyCls nm q C N bs hx sn sub ab col dd k0 k1 k2 k3 k5))
    (li : Looks (model prog w) hp (typeLookup (.ref C) "__init__") (some (.ref fI))) (lb : ∀ me, Looks (model prog w) hp (bindSpecial (.ref fI) me) (.ref fI, [me])) (lz : us.length ≤ sizeLine)
    (z : codeAny (model prog w) A (.call (.ref fI) ⟨.ref (hp.objs.size + 1) :: us, []⟩)
      (fun r s' => match r with | .ok (.ret v) => v = .none ∧ Q (.done (.ret (.ref (hp.objs.size + 1)))) s' | .ok _ => False | .error er => E er s')
      ⟨(hp.push (kdv_tup us)).push (excO C hp.objs.size), g, dr, t, os⟩) :
    wpAny (model prog w) A (Builtin.«type.__call__» ⟨.ref C :: us, []⟩) Q E ⟨hp, g, dr, t, os⟩ := by
  have T := F.excBase_LookupError
  repeat (first | with_reducible refine wpAny_loadPart_at gC ?_ | with_reducible refine wpAny_madeBy_exc gC ?_ | wp_step)
  refine codeAny_call_builtin_code (Code.quiet_builtin _ T.quiet) (key_check gC ?_)
  refine key_new gC lz ?_
  show wpAny _ _ _ _ _ _
  have kk : ∀ b o, hp.get? b = some o → ((hp.push (kdv_tup us)).push (excO C hp.objs.size)).get? b = some o := fun b o e => Heap.get?_push_of_some _ (Heap.get?_push_of_some _ e)
  have gC1 := kk _ _ gC
  have gx : ((hp.push (kdv_tup us)).push (excO C hp.objs.size)).get? (hp.objs.size + 1) = some (excO C hp.objs.size) := by heap_get
  have own : (Value.ref C :: exB).contains (.ref C) = true := by simp
  have i1 := li.keeps kk
  have b1 := (lb (.ref (hp.objs.size + 1))).keeps kk
  unfold isInstance
  repeat (first | with_reducible refine wpAny_loadPart_at gx ?_ | (with_reducible refine wpAny_isSubtype_exc gC1 ?_; rw [own]) | wp_step)
  show wpAny _ _ (typeLookup (.ref C) _) _ _ _
  refine i1.at ?_
  refine wpAny_holding (wpAny_bind (b1.at ?_))
  refine wpAny_bind (wpAny_call (codeAny_mono z fun r s' y => ?_))
  rcases r with e | (v | _ | _ | _) <;> first | exact y | exact y.elim | skip
  obtain ⟨rfl, y⟩ := y
  first
    | exact wpAny_pure (wpAny_pure y)
    | (wp_walk; exact y)
theorem key_made (gC : hp.get? C = some (keyCls nm q C N bs hx sn sub ab col dd k0 k1 k2 k3 k5))
    (li : Looks (model prog w) hp (typeLookup (.ref C) "__init__") (some (.ref fI))) (lb : ∀ me, Looks (model prog w) hp (bindSpecial (.ref fI) me) (.ref fI, [me])) (lz : us.length ≤ sizeLine)
    (z : codeAny (model prog w) (A.under (.builtin "type.__call__" ⟨.ref C :: us, []⟩)) (.call (.ref fI) ⟨.ref (hp.objs.size + 1) :: us, []⟩) (InitBack (hp.objs.size + 1) R)
      ⟨(hp.push (kdv_tup us)).push (excO C hp.objs.size), g, dr, t, os⟩) :
    codeAny (model prog w) A (.call (.ref C) ⟨us, []⟩) R ⟨hp, g, dr, t, os⟩ := by
  have f1 := tc_lookup
  have f2 := tc_bind (.ref C)
  have isT : (⟨hp, g, dr, t, os⟩ : Shared).TypeIs (.ref C) "type" := ⟨_, gC, rfl⟩
  refine codeAny_of_tree ?_
  show wpAny _ _ (callAny (.ref C) _) _ _ _
  repeat (any_goals (first | assumption | with_reducible refine wpAny_loadPart_at gC ?_ | wp_step))
  refine ⟨rfl, ?_⟩
  refine codeAny_call_builtin_at (Code.quiet_builtin _ (by decide +kernel)) entry_typeCall (wpAny_check_type_call_sub gC (key_type gC li lb lz ?_))
  refine codeAny_mono z fun r s' y => ?_
  rcases r with e | (v | _ | _ | _) <;> exact y
end
def iA (p1 p2 : Pos) : Arguments := { posonlyargs := [], args := [{ arg := "self", annotation := none, pos := p1 }, { arg := "name", annotation := none, pos := p2 }], vararg := none, kwonlyargs := [], kw_defaults := [], kwarg := none, defaults := [] }
def iB (q1 q2 q3 q4 : Pos) : List Stmt := [.Assign [.Attribute (.Name "self" q1) "name" q2] (.Name "name" q3) q4]
def iS : Scope := { kind := .function, names := [(PySem.Str.ofString "self", .local), (PySem.Str.ofString "name", .local)], isGenerator := false, isCoroutine := false, more := [] }
/-- what the written part says of the class cn, at C, and of its __init__, at fI -/
structure ErrC (K : Frag) (mg : Str → Option Value) (cn : Str) (C fI : Addr) : Prop where
  gC : mg cn = some (.ref C)
  cls : ∃ nm q N bs bm sn sub ab col dd k0 k1 k2 k3 k5, K.lookup C = some (excClassObj nm q C N bs bm true sn sub ab col dd k0 k1 k2 k3 k5 "LookupError.__new__") ∧ bm = exB
  sa : findIn K (.ref C) "__setattr__" = some (some (.builtin "object.__setattr__"))
  ga : findIn K (.ref C) "__getattribute__" = some (some (.builtin "BaseException.__getattribute__"))
  gg : findIn K (.ref C) "__getattr__" = some none
  noN : findIn K (.ref C) "name" = some none
  iC : findIn K (.ref C) "__init__" = some (some (.ref fI))
  tC : typeIn K (.ref fI) = some (.type "function")
  kC : keepIn K (.ref C) = true
  exC : subIn K (.ref C) (.type "BaseException") = some true
  tyC : typeIn K (.ref C) = some (.type "type")
  hdC : hasDictIn K C = true
  te : exmOne K (.ref C) (.ref C) = some true
  fn : ∃ (oc : Value) (od : Option Addr) (qn : Str) (doc pm : Value) (an : Option Addr) (cdv ct : Value) (osl : Array (Option Value)) (p1 p2 q1 q2 q3 q4 : Pos),
    K.lookup fI = some ⟨oc, od, .func (fnOf "__init__" qn (iA p1 p2) (iB q1 q2 q3 q4) iS .none .none doc pm an cdv ct), osl⟩ ∧ codeIn K cdv qn = true
theorem one_size (v : Value) : [v].length ≤ sizeLine := by
  rw [sizeLine_eq]
  exact (by decide : 1 ≤ 16777216)
theorem at_local {M : Model} {s : Shared} {name : Str} {scope : Scope} {L a : Addr} {cd : Value} {m : Str → Option Value} {x : Str} {pos : Pos} {v : Value} {Q : Value → Shared → Prop} {A : Around} {E : Value → Shared → Prop} (hn : s.heap.Ns L m) (hv : m x = some v) (h : Q v s)
    (hk : scope.kind = .function := by rfl) (hl : (envOfC name scope L a cd).kindOf x = some .local := by rfl) (hd : (x == ("__debug__" : Str)) = false := by decide) :
    wpAny M A (eval (.Name x pos) (envOfC name scope L a cd)) Q E s := wpAny_Name (wpAny_loadName_local hk hl hn hv h) hd
/-- what __init__ leaves of a fresh exception at x -/
structure Ended (h h' : Heap) (x C dx t1 : Addr) (v : Value) : Prop where
  keep : ∀ b o, b ≠ x → h.get? b = some o → h'.get? b = some o
  obj : h'.get? x = some { cls := .ref C, dict := some dx, data := .fields #[.ref t1, .none, .none, .none, .bool false, .none] }
  dbig : h.objs.size ≤ dx
  dne : dx ≠ x
  ns : h'.Ns1 dx (fun y => if y = "name" then some v else none)
structure Made (h h' : Heap) (e C d : Addr) (v : Value) : Prop where
  keep : ∀ b o, h.get? b = some o → h'.get? b = some o
  new : h.objs.size ≤ e
  obj : ∃ oe vs, h'.get? e = some oe ∧ oe.cls = .ref C ∧ oe.dict = some d ∧ oe.data = .fields vs ∧ vs[1]? = some .none
  dbig : h.objs.size ≤ d
  dne : d ≠ e
  ns : h'.Ns1 d (fun y => if y = "name" then some v else none)
section
open Builtin Builtin.ObjectAttr
variable {prog : Program} {w : World} {A : Around} {E : Value → Shared → Prop} {R : Result → Shared → Prop} {K : Frag} {mg : Str → Option Value} {cn : Str} {C fI : Addr}
/-- the first store to such an exception: it gets its dict -/
theorem first_store {hp : Heap} {g : Array GenState} {d : Drawn} {t : Nat} {os : OsState} {name : Str} {tk : Tok} {v : Value} {x : Addr} {fv : Array Value} {cd : ClassData}
    (X : K.In hp) (hx : hp.get? x = some { cls := .ref C, data := .fields fv }) (hcd : clsIn K C = some cd) (ho : excOver K C exB = true) (hh : cd.hasDict = true) (ha : findIn K (.ref C) name = some none)
    (hq : ∀ h' tk' dx, (∀ b o, b ≠ x → hp.get? b = some o → h'.get? b = some o) → hp.objs.size ≤ dx → dx ≠ x → h'.get? x = some { cls := .ref C, dict := some dx, data := .fields fv } →
      h'.Ns1 dx (fun y => if y = name then some v else none) → R (.ok (.ret .none)) ⟨h', g, d, tk', os⟩) :
    codeAny (model prog w) A (.call (.builtin "object.__setattr__") ⟨[.ref x, .str name tk, v], []⟩) R ⟨hp, g, d, t, os⟩ := by
  have I : InstAt hp x { cls := .ref C, data := .fields fv } C none := ⟨hx, rfl, rfl, trivial⟩
  have nx : x ≠ hp.objs.size := Nat.ne_of_lt (Heap.lt_size hx)
  refine osa_openX (r := none) st_key X I ho (by unfold takerIn; rw [ha]; rfl) fun b => ?_
  show wpAny _ _ (storeInOwnDict (.ref x) (.ref C) (.str name tk) name v b) _ _ _
  have hC : Looks (model prog w) hp (classData C) cd := looks_clsIn X hcd
  obtain ⟨_, _, _, _, _, hd, _, _, _, _, _⟩ := cd
  dsimp only at hh
  subst hh
  unfold storeInOwnDict ownDictForStores
  repeat (first | with_reducible refine wpAny_loadPart_at hx ?_ | with_reducible refine hC.at ?_ | with_reducible refine HandSPX.store_in_new ?_ ?_ | wp_step)
  · exact ⟨_, #[], _, (Heap.get?_update_ne _ _ _ _ nx.symm).trans (Heap.get?_push_at rfl rfl), rfl, fun e he => absurd he (by simp), fun _ => rfl⟩
  · intro h' tk' hn' hs
    have old : (hp.push { cls := .type "dict", data := .dict #[] }).get? x = some { cls := .ref C, data := .fields fv } := Heap.get?_push_of_some _ hx
    refine hq h' tk' hp.objs.size (fun b o hb ho => ?_) (Nat.le_refl _) nx.symm ?_ hn'
    · exact (hs.2 b (Nat.ne_of_lt (Heap.lt_size ho))).trans ((Heap.get?_update_ne _ _ _ _ hb).trans (Heap.get?_push_of_some _ ho))
    · exact (hs.2 x nx).trans (Heap.get?_update_self _ old rfl)
theorem err_init (T : ErrC K mg cn C fI) {s : Shared} {x t0 : Addr} {v : Value} (X : K.In s.heap) (hlim : s.heap.NoLimit) (hx : s.heap.get? x = some (excO C t0)) (hroom : A.depth < recursionLimit)
    (hq : ∀ h' tk dx, Ended s.heap h' x C dx t0 v → R (.ok (.ret .none)) { s with heap := h', toks := tk }) :
    codeAny (model prog w) A (.call (.ref fI) ⟨[.ref x, v], []⟩) R s := by
  obtain ⟨oc, od, qn, doc, pm, an, cdv, ct, osl, p1, p2, q1, q2, q3, q4, ho, hcd⟩ := T.fn
  obtain ⟨nm, q, N, bs, bm, sn, sub, ab, col, dd, k0, k1, k2, k3, k5, hC, hbE⟩ := T.cls
  subst hbE
  have hcl : clsIn K C = some { name := nm, bases := bs, mro := .ref C :: exB, ns := N, qualname := q, hasDict := true, slotNames := sn, subclasses := sub, abstract := ab, collection := col, hasDel := false } := by unfold clsIn; rw [hC] <;> rfl
  have over : excOver K C exB = true := by
    unfold excOver
    rw [hcl]
    show ((C == C) && excTail exB exB) = true
    rw [beq_self_eq_true]
    rfl
  refine Att.call_fn (binds := [("self", .ref x), ("name", v)]) X hlim ho hcd hroom (BindsTo.of_eq (by first | rfl | with_unfolding_all rfl)) (by first | rfl | decide | with_unfolding_all rfl) (fun s₁ IC => ?_) rfl rfl rfl
  obtain ⟨h₁, tk₁, rfl⟩ := IC.toInCall.same
  have k : ∀ b o, s.heap.get? b = some o → h₁.get? b = some o := IC.toInCall.keep
  have hn := IC.toInCall.ns
  have X₁ : K.In h₁ := X.keeps k
  have hx₁ := k _ _ hx
  show wpAny _ _ (execs _ _) _ _ _
  refine wpAny_execs_cons (plainObj_wpAny_Assign_Attribute ?_)
  refine at_local (v := v) hn (by first | rfl | with_unfolding_all rfl | kernel_rfl) (at_local (v := .ref x) hn (by first | rfl | with_unfolding_all rfl | kernel_rfl) ?_)
  refine set_plain X₁ (ox := excO C t0) (od := none) ⟨hx₁, rfl, rfl, trivial⟩ T.sa ?_
  refine first_store X₁ hx₁ hcl over rfl T.noN (fun h₃ tk₃ dx k₃ dn dne hx₃ hn₃ => ?_)
  show wpAny _ _ (execs _ _) _ _ _
  have z : s.heap.objs.size < h₁.objs.size := hn.lt
  exact wpAny_execs_nil (hq h₃ tk₃ dx ⟨fun b o hb e => k₃ b o hb (k b o e), hx₃, Nat.le_of_lt (Nat.lt_of_lt_of_le z dn), dne, hn₃⟩)
theorem err_made (T : ErrC K mg cn C fI) {s : Shared} {v : Value} (X : K.In s.heap) (hlim : s.heap.NoLimit) (hroom : A.depth + 1 < recursionLimit)
    (hq : ∀ h' tk e d, Made s.heap h' e C d v → R (.ok (.ret (.ref e))) { s with heap := h', toks := tk }) :
    codeAny (model prog w) A (.call (.ref C) ⟨[v], []⟩) R s := by
  obtain ⟨nm, q, N, bs, bm, sn, sub, ab, col, dd, k0, k1, k2, k3, k5, hC, hbE⟩ := T.cls
  subst hbE
  obtain ⟨hp, g, dr, tk, os⟩ := s
  have k : ∀ b o, hp.get? b = some o → ((hp.push (kdv_tup [v])).push (excO C hp.objs.size)).get? b = some o := fun b o e => Heap.get?_push_of_some _ (Heap.get?_push_of_some _ e)
  have hget : ((hp.push (kdv_tup [v])).push (excO C hp.objs.size)).get? (hp.objs.size + 1) = some (excO C hp.objs.size) := by heap_get
  refine key_made (X _ _ hC) (looks_findIn X T.iC) (fun self => bind_fn X self T.tC) (one_size v) ?_
  refine err_init (s := ⟨(hp.push (kdv_tup [v])).push (excO C hp.objs.size), g, dr, tk, os⟩) T (X.keeps k) (hlim.keeps k) hget ?_ fun h' tk' dx ⟨k', hx, dn, dne, hns⟩ => ?_
  · show A.depth + 1 < recursionLimit
    exact hroom
  · have old : ∀ b o, hp.get? b = some o → h'.get? b = some o := fun b o e => k' b o (Nat.ne_of_lt (Nat.lt_succ_of_lt (Heap.lt_size e))) (k b o e)
    have z : hp.objs.size + 1 + 1 ≤ dx := by
      first
        | (simpa only [Heap.size_push] using dn)
        | exact dn
        | (have q := dn; rw [Heap.size_push, Heap.size_push] at q; exact q)
    exact ⟨rfl, hq h' tk' (hp.objs.size + 1) dx ⟨old, Nat.le_succ _, ⟨_, _, hx, rfl, rfl, rfl, rfl⟩, Nat.le_trans (Nat.le_trans (Nat.le_succ _) (Nat.le_succ _)) z, dne, hns⟩⟩
end
end Xk
namespace Xk
open PySem PySem.Spec PyProof.Rows L2
theorem relO_at {v : V} {v' : Value} (r : RelV v v') (f : Str) : RelO (List.lookup f [(("name" : Str), v)]) (if f = "name" then some v' else none) := by
  by_cases hw : f = "name"
  · subst hw
    rw [if_pos rfl]
    have q : List.lookup ("name" : Str) [(("name" : Str), v)] = some v := by simp [List.lookup]
    rw [q]
    exact r
  · rw [if_neg hw]
    have qw : (f == ("name" : Str)) = false := by simpa using hw
    have q2 : List.lookup f [(("name" : Str), v)] = none := by simp [List.lookup, qw]
    rw [q2]
    trivial
section
variable {X : Cx} {cn : Str} {C fI : Addr}
/-- cn(e) -/
def tMk (C : Addr) (ta : TA) : L2.St → Hp → XK → Prop := fun σ H Q => ta σ H fun vs H1 => ∃ v, vs = [v] ∧ ∀ d, H1 d = none → Q (.ref C) (some d) (upd H1 d (.xd [(("name" : Str), v)]))
theorem pmk_at {a : Expr} {ta : TA} {p pos : Pos} {k : Nat} (T : ErrC X.K X.mg cn C fI) (hr : Room k X.A) (ha : PA X [a] ta) (hg : Gl X cn) (hdb : (cn == ("__debug__" : Str)) = false := by decide)
    (he : starEach (a :: []) X.env = (false, eval a X.env) :: starEach [] X.env := by rfl) (hpl : (backTo pos (starEach [] X.env)).any (·.1) = false := by rfl) :
    PMk X (.Call (.Name cn p) [a] [] pos) (tMk C ta) := by
  intro pins s σ H Q I h
  refine wpAny_Call_Name_kw (ld_glob I hg T.gC ?_ hdb)
  refine PySem.W.callWith_K (h₀ := X.base) I.ok.mod.kin T.kC (thn (ha.run pos pins s σ H _ I h) fun us s1 hh => ?_) he hpl
  obtain ⟨vs, H1, I1, r1, v, ev, q1⟩ := hh
  subst ev
  refine ⟨I1.kIn, ?_⟩
  cases r1 with
  | cons rv rn =>
    rename_i v' us'
    cases rn
    show wpAny _ _ (call (.ref C) [v']) _ _ _
    have hlim := I1.nolimit
    obtain ⟨hp, g, dr, tk, os⟩ := s1
    refine wpAny_call (err_made T I1.kIn hlim (by have := hr.dp; omega) fun h' tk' e d M => ?_)
    show MkP X pins σ Q (.ref e) ⟨h', g, dr, tk', os⟩
    obtain ⟨oe, fv, hoe, hc, hd, hdat, h1⟩ := M.obj
    have hns := M.ns
    obtain ⟨G', g1, g2⟩ := restrict h' fun b => decide (b ≠ e)
    have gk : ∀ b, b ≠ e → G'.get? b = h'.get? b := fun b hb => g1 b (decide_eq_true hb)
    have ge : G'.get? e = none := g2 e (by simp)
    have old : ∀ b o, hp.get? b = some o → G'.get? b = some o := fun b o q => (gk b (Nat.ne_of_lt (Nat.lt_of_lt_of_le (Heap.lt_size q) M.new))).trans (M.keep b o q)
    have ob : ObjOk X.prog X.w (upd H1 d (.xd [(("name" : Str), v)])) G' d (.xd [(("name" : Str), v)]) :=
      ⟨_, hns.at (fun o q => (gk d M.dne).trans q), fun f => relO_at rv f⟩
    have J : Inv X pins σ (upd H1 d (.xd [(("name" : Str), v)])) ⟨G', g, dr, tk', os⟩ := I1.laid (t' := tk') old M.dbig ob
    refine ⟨e, oe, fv, ⟨G', g, dr, tk', os⟩, _, .ref C, some d, rfl, J, fun b o q => ?_, ge, hoe, ⟨hc, hd⟩, hdat, h1, ?_, rfl, I1.bare, raises_own T.exC T.tyC, q1 d (I1.hok.fresh M.dbig)⟩
    · by_cases hb : b = e
      · have q' : G'.get? b = some o := q
        rw [hb, ge] at q'; cases q'
      · exact (gk b hb).symm.trans q
    · rw [upd_ne (Ne.symm M.dne)]
      exact I1.hok.fresh M.new
/-- raise cn(e) -/
def tRaise (C : Addr) (W : WX) (ta : TA) : TS := fun _ σ H => tMk C ta σ H fun cls d H' => W cls d σ H'
theorem ps_raiseAt {a : Expr} {ta : TA} {W : WX} {p pos pos2 : Pos} {k : Nat} (hc : X.calm = true) (T : ErrC X.K X.mg cn C fI) (hr : Room k X.A) (tk : Takes X W) (ha : PA X [a] ta) (hg : Gl X cn) (hdb : (cn == ("__debug__" : Str)) = false := by decide)
    (he : starEach (a :: []) X.env = (false, eval a X.env) :: starEach [] X.env := by rfl) (hpl : (backTo pos (starEach [] X.env)).any (·.1) = false := by rfl) :
    PS X (.Raise (some (.Call (.Name cn p) [a] [] pos)) none pos2) (tRaise C W ta) := ps_raise hc tk (pmk_at T hr ha hg hdb he hpl)
theorem ErrC.xf (T : ErrC X.K X.mg cn C fI) : XfC X.K C := ⟨T.ga, T.gg, T.exC, T.hdC⟩
end
end Xk

namespace R0
open PySem PySem.Spec PyProof.Rows L2 Hb St Sq Ow En Zp RZ Rd Xb Da
/-! ### rooms, typed -/
abbrev Lot := List Str
abbrev Tale := List Lot
abbrev Rm := Str × Tale
abbrev Stp := Str × Int
abbrev Jn := Stp × Stp
structure RD where
  rooms : List Rm
  gongs : List Jn
  calls : List Jn
deriving DecidableEq
def lD (l : Lot) : PyData := .tuple (l.map .str)
def tD (t : Tale) : PyData := .tuple (t.map lD)
def rmD (r : Rm) : PyData := .tuple [.str r.1, tD r.2]
def stD (s : Stp) : PyData := .tuple [.str s.1, .int s.2]
def jnD (j : Jn) : PyData := .tuple [stD j.1, stD j.2]
theorem eqv_lD (a b : Lot) : PyData.eqv (lD a) (lD b) = decide (a = b) := eqvAll_map eqv_str a b
theorem eqv_tD (a b : Tale) : PyData.eqv (tD a) (tD b) = decide (a = b) := eqvAll_map eqv_lD a b
theorem eqv_two {a b c d : PyData} {A B : Prop} [Decidable A] [Decidable B] (h1 : PyData.eqv a c = decide A) (h2 : PyData.eqv b d = decide B) : PyData.eqv (.tuple [a, b]) (.tuple [c, d]) = (decide A && decide B) := by
  show (PyData.eqv a c && (PyData.eqv b d && true)) = _
  rw [h1, h2, Bool.and_true]
theorem eqv_rm (a b : Rm) : PyData.eqv (rmD a) (rmD b) = decide (a = b) := by
  refine (eqv_two (eqv_str a.1 b.1) (eqv_tD a.2 b.2)).trans ?_
  rw [← Bool.decide_and]
  exact decide_eq_decide.mpr (by rw [Prod.ext_iff])
theorem eqv_st (a b : Stp) : PyData.eqv (stD a) (stD b) = decide (a = b) := by
  refine (eqv_two (eqv_str a.1 b.1) (eqv_int a.2 b.2)).trans ?_
  rw [← Bool.decide_and]
  exact decide_eq_decide.mpr (by rw [Prod.ext_iff])
theorem eqv_jn (a b : Jn) : PyData.eqv (jnD a) (jnD b) = decide (a = b) := by
  refine (eqv_two (eqv_st a.1 b.1) (eqv_st a.2 b.2)).trans ?_
  rw [← Bool.decide_and]
  exact decide_eq_decide.mpr (Prod.ext_iff (x := a) (y := b)).symm
theorem eqv_rms (a b : List Rm) : PyData.eqv (.tuple (a.map rmD)) (.tuple (b.map rmD)) = decide (a = b) := eqvAll_map eqv_rm a b
theorem eqv_jns (a b : List Jn) : PyData.eqv (.tuple (a.map jnD)) (.tuple (b.map jnD)) = decide (a = b) := eqvAll_map eqv_jn a b
theorem sh_two {n : Nat} {a b : PyData} (h1 : Sh n a) (h2 : Sh n b) : Sh (n + 1) (.tuple [a, b]) := sh_tup (f := id) (l := [a, b]) fun c hc => by
  simp only [List.mem_cons, List.not_mem_nil, or_false] at hc
  rcases hc with rfl | rfl
  · exact h1
  · exact h2
def NmT (t : Tale) : Prop := ∀ l ∈ t, ∀ x ∈ l, IsNm x
def NmR (r : Rm) : Prop := IsNm r.1 ∧ NmT r.2
def NmJ (j : Jn) : Prop := IsNm j.1.1 ∧ IsNm j.2.1
structure RNm (R : RD) : Prop where
  r : ∀ r ∈ R.rooms, NmR r
  g : ∀ j ∈ R.gongs, NmJ j
  c : ∀ j ∈ R.calls, NmJ j
theorem sh_lD {l : Lot} (h : ∀ x ∈ l, IsNm x) : Sh 1 (lD l) := sh_tup fun x hx => sh_str (h x hx)
theorem sh_tD {t : Tale} (h : NmT t) : Sh 2 (tD t) := sh_tup fun x hx => sh_lD (h x hx)
theorem sh_rm {r : Rm} (h : NmR r) : Sh 3 (rmD r) := sh_two (sh_str h.1) (sh_tD h.2)
theorem sh_st {s : Stp} (h : IsNm s.1) : Sh 1 (stD s) := sh_two (sh_str h) (sh_int 0 _)
theorem sh_jn {j : Jn} (h : NmJ j) : Sh 2 (jnD j) := sh_two (sh_st h.1) (sh_st h.2)
theorem sh_rms {l : List Rm} (h : ∀ r ∈ l, NmR r) : Sh 4 (.tuple (l.map rmD)) := sh_tup fun x hx => sh_rm (h x hx)
theorem sh_jns {l : List Jn} (h : ∀ j ∈ l, NmJ j) : Sh 3 (.tuple (l.map jnD)) := sh_tup fun x hx => sh_jn (h x hx)
/-- the rooms R stand at m -/
def RoomsAt (K : PySem.W.Frag) (C : Addr) (H : Hp) (m : Addr) (R : RD) : Prop := RmAt K C H m (R.rooms.map rmD) (R.gongs.map jnD) (R.calls.map jnD)
/-! ### what is made of Rooms(..) -/
theorem rd_make {K : PySem.W.Frag} {C CR : Addr} {vr vg vc : V} {dr dg dc : PyData} {H : Hp} {Q : VK} {E : XK} (dvr : Dp K H vr dr) (dvg : Dp K H vg dg) (dvc : Dp K H vc dc) (smr : SmR dr) (smg : SmJs dg) (smc : SmJs dc)
    (q : rmErr dr dg dc = none → ∀ m H', Same H H' → H m = none → RmAt K C H' m (itemsD dr) (itemsD dg) (itemsD dc) → Q (.ref m) H') (qe : ∀ k : Nat, rmErr dr dg dc = some k → ∀ dd H', Same H H' → H' dd = some (errH k) → E (.ref CR) (some dd) H') :
    ∀ x dx, H x = none → H dx = none → dx ≠ x → spInit K C CR (.ref x :: ([vr, vg, vc] ++ [])) (upd (upd H dx (.own x)) x (.ins C dx [])) (fun v H2 => v = .non ∧ Q (.ref x) H2) E := fun x dx hx hd ne => by
  have s1 : Same H (upd (upd H dx (.own x)) x (.ins C dx [])) := (same_new hd (.own x)).trans (same_new (by rw [upd_ne ne.symm]; exact hx) _)
  refine ⟨x, dx, vr, vg, vc, dr, dg, dc, rfl, upd_same, dp_same s1 dvr, dp_same s1 dvg, dp_same s1 dvc, smr, smg, smc, fun no H' k r => ⟨rfl, q no x H' (fun b o e => ?_) hx r⟩, fun k ek dd H' s e => qe k ek dd H' (s1.trans s) e⟩
  exact k b o (s1 b o e) (ne_of_none e hx)
/-- the class, as it is made -/
structure MkR (P : Program) (w : World) (K : PySem.W.Frag) (mg : Str → Option Value) (base : Heap) (C CR eg ec : Addr) : Prop where
  ex : ∃ (f : Addr) (fd : FuncData) (g : List Value → List Value → List Value), Mk K C f ∧ FnOk P w K mg base (L2.CX P w) 5 f fd ["self", "rooms", "gongs", "calls"] (spInit K C CR) ∧ Binds K fd ["self", "rooms", "gongs", "calls"] [] ∧ Binds K fd ["self", "rooms", "gongs", "calls"] [.ref ec] ∧ Binds K fd ["self", "rooms", "gongs", "calls"] [.ref eg, .ref ec] ∧ KBn K fd ["self", "rooms", "gongs", "calls"] 1 ["rooms", "gongs", "calls"] g (fun vs zs => vs ++ zs)
  mgC : mg "Rooms" = some (.ref C)
  eG : ∀ H, SqT K H eg []
  eC : ∀ H, SqT K H ec []
section
variable {X : Cx} {C CR eg ec : Addr} {e : Expr} {es : List Expr} {p pos : Pos} {t : TA} {E : XK}
theorem pe_mk3 (M : MkR X.prog X.w X.K X.mg X.base C CR eg ec) (hr : Room 6 X.A) (hx : Passes (L2.CX X.prog X.w) X E) (hg : Gl X "Rooms") (ha : PA X (e :: es) t)
    (he : starEach (e :: es) X.env = (false, eval e X.env) :: starEach es X.env := by rfl) (hpl : (backTo pos (starEach es X.env)).any (·.1) = false := by rfl) : PE X (.Call (.Name "Rooms" p) (e :: es) [] pos) (tMake C (spInit X.K C CR) [] E t) := by
  obtain ⟨f, fd, g, mk, F, b3, b2, b1, kb⟩ := M.ex
  exact pe_make mk F hr hg M.mgC b3 .nil hx ha (by decide) he hpl
theorem pe_mk2 (M : MkR X.prog X.w X.K X.mg X.base C CR eg ec) (hr : Room 6 X.A) (hx : Passes (L2.CX X.prog X.w) X E) (hg : Gl X "Rooms") (ha : PA X (e :: es) t)
    (he : starEach (e :: es) X.env = (false, eval e X.env) :: starEach es X.env := by rfl) (hpl : (backTo pos (starEach es X.env)).any (·.1) = false := by rfl) : PE X (.Call (.Name "Rooms" p) (e :: es) [] pos) (tMake C (spInit X.K C CR) [.ref ec] E t) := by
  obtain ⟨f, fd, g, mk, F, b3, b2, b1, kb⟩ := M.ex
  exact pe_make mk F hr hg M.mgC b2 (.cons rfl .nil) hx ha (by decide) he hpl
theorem pe_mk1 (M : MkR X.prog X.w X.K X.mg X.base C CR eg ec) (hr : Room 6 X.A) (hx : Passes (L2.CX X.prog X.w) X E) (hg : Gl X "Rooms") (ha : PA X (e :: es) t)
    (he : starEach (e :: es) X.env = (false, eval e X.env) :: starEach es X.env := by rfl) (hpl : (backTo pos (starEach es X.env)).any (·.1) = false := by rfl) : PE X (.Call (.Name "Rooms" p) (e :: es) [] pos) (tMake C (spInit X.K C CR) [.ref eg, .ref ec] E t) := by
  obtain ⟨f, fd, g, mk, F, b3, b2, b1, kb⟩ := M.ex
  exact pe_make mk F hr hg M.mgC b1 (.cons rfl (.cons rfl .nil)) hx ha (by decide) he hpl
theorem pe_mkK {kws : List Keyword} {tk : TA} (M : MkR X.prog X.w X.K X.mg X.base C CR eg ec) (hr : Room 6 X.A) (hx : Passes (L2.CX X.prog X.w) X E) (hg : Gl X "Rooms") (hkw : PK X kws tk)
    (hall : (backToKw pos (keywordEach kws X.env)).all (·.1.isSome) = true := by rfl) (hks : (backToKw pos (keywordEach kws X.env)).filterMap (·.1) = ([("rooms" : Str), "gongs", "calls"] : List Str) := by rfl)
    (hpl : ((backTo pos (starEach [] X.env)).any (·.1) || (backToKw pos (keywordEach kws X.env)).any (·.1.isNone)) = false := by rfl) : PE X (.Call (.Name "Rooms" p) [] kws pos) (tMakeK C 0 3 (spInit X.K C CR) (fun vs zs => vs ++ zs) E tNil tk) := by
  obtain ⟨f, fd, g, mk, F, b3, b2, b1, kb⟩ := M.ex
  exact pe_makeK0 mk F hr hg M.mgC kb hx hkw hall hks (by decide) hpl
end
section
variable {P : Program} {w : World} {K : PySem.W.Frag} {mg : Str → Option Value} {base : Heap}
/-! ### Rooms.__eq__ -/
abbrev s_Rooms___eq__ : Stmt := inClass (top 20) 1
theorem sc_Rooms___eq__ : FnScope ["self", "other"] ["self", "other"] (defScope s_Rooms___eq__) := ⟨rfl, rfl, rfl, by decide +kernel, rfl, by decide +kernel, by decide +kernel⟩
def spEqR (K : PySem.W.Frag) (C : Addr) : Sp := fun vs H Q _ => ∃ (m : Addr) (y : V) (R : RD), vs = [.ref m, y] ∧ RoomsAt K C H m R ∧ RNm R ∧ ((∃ m2 U, y = .ref m2 ∧ RoomsAt K C H m2 U ∧ RNm U ∧ Q (.bl (decide (R = U))) H) ∨ ∃ z, y = .str z ∧ Q (.bl false) H)
theorem ok_eqR {f C_Rooms : Addr} {fd : FuncData} (F : Fun K "__eq__" "Rooms.__eq__" s_Rooms___eq__ f fd) (TC : RmT K C_Rooms) (g_Rooms : mg "Rooms" = some (.ref C_Rooms)) (n_isinstance : mg "isinstance" = none) : FnOk P w K mg base CX0 2 f fd ["self", "other"] (spEqR K C_Rooms) := by
  refine F.ok sc_Rooms___eq__ (fun vs H Q E h => ?_) (fun cdv A outer s H vs Q E hr h => ?_)
  · obtain ⟨_, _, _, rfl, _⟩ := h
    rfl
  · obtain ⟨m, y, R, rfl, ⟨dx, a, b, c, hm, d1, d2, d3⟩, nR, hy⟩ := h
    refine ⟨_, (Evl.pss_cut (ps_if (pt_not (pt_val (pe_callB call_isi (by rfl) n_isinstance (by decide +kernel) (pa_cons (pv 1) (pa_cons (pe_glob (v := .ref C_Rooms) (by rfl) g_Rooms rfl) pa_nil))))) (pss_one (ps_ret pe_bl)) pss_nil)
    (pss_one (ps_ret (pe_and (pe_cmpR (op_eqD hr.units) (pe_fld (pv 0) rfl) (pe_fld (pv 1) rfl) (nomark _)) (pe_and (pe_cmpR (op_eqD hr.units) (pe_fld (pv 0) rfl) (pe_fld (pv 1) rfl) (nomark _)) (pe_one (pe_cmpR (op_eqD hr.units) (pe_fld (pv 0) rfl) (pe_fld (pv 1) rfl) (nomark _)))))))), ?_⟩
    rcases hy with ⟨m2, U, rfl, ⟨dy, a', b', c', hm', e1, e2, e3⟩, nU, q⟩ | ⟨z, rfl, q⟩
    · refine ⟨fun σ H' => σ = [some (.ref m), some (.ref m2)] ∧ H' = H, ?_, ?_⟩
      · exact ⟨_, rfl, _, _, _, _, true, rfl, .own C_Rooms, .base (.ins hm' TC.cl TC.x1 TC.x2 TC.x3 TC.x4), TC.kC, true, rfl, iteF ⟨rfl, rfl⟩⟩
      rintro σ H' ⟨rfl, rfl⟩
      refine ⟨_, rfl, m, C_Rooms, dx, _, _, rfl, hm, TC.cl, TC.nR, rfl, _, rfl, m2, C_Rooms, dy, _, _, rfl, hm', TC.cl, TC.nR, rfl, _, _, d1, e1, (sh_rms nR.r).ok (by decide), (sh_rms nU.r).ok (by decide), _, rfl, ?_⟩
      rw [eqv_rms]
      by_cases c0 : R.rooms = U.rooms
      · rw [decide_eq_true c0]
        refine iteT ⟨_, rfl, m, C_Rooms, dx, _, _, rfl, hm, TC.cl, TC.nG, rfl, _, rfl, m2, C_Rooms, dy, _, _, rfl, hm', TC.cl, TC.nG, rfl, _, _, d2, e2, (sh_jns nR.g).ok (by decide), (sh_jns nU.g).ok (by decide), _, rfl, ?_⟩
        rw [eqv_jns]
        by_cases c1 : R.gongs = U.gongs
        · rw [decide_eq_true c1]
          refine iteT ⟨_, rfl, m, C_Rooms, dx, _, _, rfl, hm, TC.cl, TC.nC, rfl, _, rfl, m2, C_Rooms, dy, _, _, rfl, hm', TC.cl, TC.nC, rfl, _, _, d3, e3, (sh_jns nR.c).ok (by decide), (sh_jns nU.c).ok (by decide), ?_⟩
          rw [eqv_jns]
          have e2 : decide (R = U) = decide (R.calls = U.calls) := decide_eq_decide.mpr ⟨fun h => by rw [h], fun h => by cases R; cases U; simp_all⟩
          rw [e2] at q
          exact q
        · rw [decide_eq_false c1]
          rw [decide_eq_false fun h => c1 (by rw [h])] at q
          exact iteF q
      · rw [decide_eq_false c0]
        rw [decide_eq_false fun h => c0 (by rw [h])] at q
        exact iteF q
    · exact ⟨fun _ _ => False, ⟨_, rfl, _, _, _, _, false, rfl, .own C_Rooms, .base (.str z), TC.kS, false, rfl, iteT q⟩, fun _ _ h => h.elim⟩
end
end R0

/-! a loop over a walk, within a comprehension: any body -/
namespace Wa
open PySem PySem.Spec PyProof.Rows L2 Hb St Sq
theorem wk_go {J : It} {a : Addr} {S : Hp → Prop} {xs : List V} (W : Wk J a S xs) {B : (Hp → Prop) → V → Hp → Prop} {Qd : Hp → Prop} {H0 : Hp} (M : Nat → Hp → Prop) (h0 : M 0 H0) (hk : ∀ i H, M i H → S H) (hs : ∀ i x H, xs[i]? = some x → M i H → B (M (i + 1)) x H) (hd : ∀ H, M xs.length H → Qd H) :
    ∃ W : Nat → Nat → Hp → Prop, (∃ m, W 0 m H0) ∧ ∀ i m H, W i m H → (J.stop i H ∧ Qd H) ∨ (J.go i H ∧ ∃ Nx : Hp → Prop, (∀ H', Nx H' → ∃ m', m' < m ∧ W (i + 1) m' H') ∧ ∀ x H', J.yld i H x H' → B Nx x H') := by
  refine ⟨fun i m H => m + i = xs.length ∧ M i H, ⟨xs.length, rfl, h0⟩, fun i m H ⟨e, p⟩ => ?_⟩
  cases m with
  | zero =>
    obtain rfl : i = xs.length := by omega
    exact .inl ⟨W.stop H (hk _ _ p), hd H p⟩
  | succ m =>
    refine .inr ⟨W.go i H (by omega) (hk _ _ p), M (i + 1), fun H' p' => ⟨m, Nat.lt_succ_self m, by omega, p'⟩, fun v H' y => ?_⟩
    obtain ⟨rfl, ev⟩ := W.yld i H v H' (by omega) (hk _ _ p) y
    exact hs i v H' ev p
end Wa

namespace R0
open PySem PySem.Spec PyProof.Rows L2 Hb St Sq Ow En Zp RZ Rd Xb Da Wa
/-! ### typed data on the heap -/
section
variable {K : PySem.W.Frag} {H : Hp}
theorem all2_map {α : Type} {R : V → PyData → Prop} {f : α → PyData} : ∀ {xs : List V} {l : List α}, All2 R xs (l.map f) → All2 (fun v a => R v (f a)) xs l
  | _, [], .nil => .nil
  | _, _ :: _, .cons h t => .cons h (all2_map t)
theorem dp_seq {α : Type} {f : α → PyData} {v : V} {l : List α} (h : Dp K H v (.tuple (l.map f))) : ∃ b xs, v = .ref b ∧ SqT K H b xs ∧ All2 (fun v a => Dp K H v (f a)) xs l := by
  cases h with
  | tup h a => exact ⟨_, _, rfl, h, all2_map (dpa_all a)⟩
theorem dp_lsq {α : Type} {f : α → PyData} {v : V} {l : List α} (h : Dp K H v (.list (l.map f))) : ∃ b xs, v = .ref b ∧ SqL K H b xs ∧ All2 (fun v a => Dp K H v (f a)) xs l := by
  cases h with
  | lst h a => exact ⟨_, _, rfl, h, all2_map (dpa_all a)⟩
theorem dp_lot {v : V} {l : Lot} (h : Dp K H v (lD l)) : ∃ b, v = .ref b ∧ SqT K H b (l.map V.str) := by
  obtain ⟨b, xs, rfl, hb, al⟩ := dp_seq h
  refine ⟨b, rfl, ?_⟩
  rw [← al.map_eq (f := V.str) fun v a r => by cases r; rfl]
  exact hb
theorem dp_two {v : V} {d e : PyData} (h : Dp K H v (.tuple [d, e])) : ∃ b v1 v2, v = .ref b ∧ SqT K H b [v1, v2] ∧ Dp K H v1 d ∧ Dp K H v2 e := by
  cases h with
  | tup h a =>
    cases dpa_all a with
    | cons h1 r1 =>
      cases r1 with
      | cons h2 r2 =>
        cases r2
        exact ⟨_, _, _, rfl, h, h1, h2⟩
theorem dp_rm {v : V} {r : Rm} (h : Dp K H v (rmD r)) : ∃ b vt, v = .ref b ∧ SqT K H b [.str r.1, vt] ∧ Dp K H vt (tD r.2) := by
  obtain ⟨b, v1, v2, rfl, hb, h1, h2⟩ := dp_two h
  cases h1
  exact ⟨b, v2, rfl, hb, h2⟩
theorem dp_st {v : V} {s : Stp} (h : Dp K H v (stD s)) : ∃ b, v = .ref b ∧ SqT K H b [.str s.1, .int s.2] := by
  obtain ⟨b, v1, v2, rfl, hb, h1, h2⟩ := dp_two h
  cases h1
  cases h2
  exact ⟨b, rfl, hb⟩
theorem dp_jn {v : V} {j : Jn} (h : Dp K H v (jnD j)) : ∃ b v1 v2, v = .ref b ∧ SqT K H b [v1, v2] ∧ Dp K H v1 (stD j.1) ∧ Dp K H v2 (stD j.2) := dp_two h
theorem dp_tup2 {b : Addr} {v1 v2 : V} {d e : PyData} (h : SqT K H b [v1, v2]) (h1 : Dp K H v1 d) (h2 : Dp K H v2 e) : Dp K H (.ref b) (.tuple [d, e]) := .tup h (.cons h1 (.cons h2 .nil))
end
section
variable {P : Program} {w : World} {K : PySem.W.Frag} {mg : Str → Option Value} {base : Heap}
theorem dpa_app {H : Hp} : ∀ {xs ys : List V} {ds es : List PyData}, DpAll K H xs ds → DpAll K H ys es → DpAll K H (xs ++ ys) (ds ++ es)
  | _, _, _, _, .nil, h => h
  | _, _, _, _, .cons h t, k => .cons h (dpa_app t k)
theorem none_back {H H' : Hp} {m : Addr} (s : Same H H') (h : H' m = none) : H m = none := by
  cases c : H m with
  | none => rfl
  | some o => rw [s _ _ c] at h; cases h
end
theorem all2_mapR {α β γ : Type} {R : α → γ → Prop} {f : β → γ} : ∀ {xs : List α} {l : List β}, All2 (fun v a => R v (f a)) xs l → All2 R xs (l.map f)
  | _, _, .nil => .nil
  | _, _, .cons h t => .cons h (all2_mapR t)
theorem str_at {ns : List Str} {i : Nat} {y : V} (ey : (ns.map V.str)[i]? = some y) : ∃ x, ns[i]? = some x ∧ y = .str x := by
  rw [List.getElem?_map] at ey
  cases c : ns[i]? with
  | none => rw [c] at ey; cases ey
  | some x => rw [c] at ey; exact ⟨x, rfl, (Option.some.inj ey).symm⟩
/-! ### comprehensions whose items are lists -/
section
variable {α : Type} {H1 : Hp} {D : Addr} {ds : List α} {keep : α → Bool} {Rel : Hp → V → α → Prop} {i : Nat} {H : Hp}
theorem mfk_yes (m : MF H1 D ds keep Rel i H) {H' : Hp} {d : α} {y : V} (hd : H1 D = none) (mono : ∀ H H' y d, Kept D H H' → Rel H y d → Rel H' y d) (hi : ds[i]? = some d) (hl : ds.length ≤ 100000) (s : Same H H') (k : keep d = true) (r : Rel H' y d) :
    ∃ acc, H' D = some (.lst acc) ∧ acc.length < sizeLine ∧ MF H1 D ds keep Rel (i + 1) (upd H' D (.lst (acc ++ [y]))) := by
  obtain ⟨s1, ys, e, a⟩ := m
  have e' := s _ _ e
  have kp : Kept D H' (upd H' D (.lst (ys ++ [y]))) := kept_upd
  refine ⟨ys, e', ?_, fun b o eb => ?_, ys ++ [y], upd_same, ?_⟩
  · have := a.len
    have h2 := List.length_filter_le keep (ds.take i)
    have h3 : (ds.take i).length ≤ ds.length := by rw [List.length_take]; exact Nat.min_le_right _ _
    rw [sizeLine_eq]; omega
  · rw [upd_ne (ne_of_none eb hd)]; exact s b o (s1 b o eb)
  · rw [List.take_add_one, hi, List.filter_append]
    show All2 _ _ (_ ++ [d].filter keep)
    rw [List.filter_cons_of_pos k]
    exact (a.imp fun _ _ q => mono _ _ _ _ ((Hb.Same.kept s).trans kp) q).app (.cons (mono _ _ _ _ kp r) .nil)
end
def lsD (l : List Str) : PyData := .list (l.map .str)
/-! ### data without lists -/
mutual
def noL : PyData → Bool
  | .list _ => false
  | .tuple ds => noLs ds
  | _ => true
def noLs : List PyData → Bool
  | [] => true
  | d :: r => noL d && noLs r
end
mutual
theorem dp_fix {K : PySem.W.Frag} {H H' : Hp} (f : Fix H H') : ∀ {d : PyData} {v : V}, noL d = true → Dp K H v d → Dp K H' v d
  | _, _, _, .non => .non
  | _, _, _, .bl b => .bl b
  | _, _, _, .int i => .int i
  | _, _, _, .str x => .str x
  | _, _, n, .lst h a => by simp [noL] at n
  | _, _, n, .tup h a => .tup (tupFix f h) (dpa_fix f (by simpa [noL] using n) a)
theorem dpa_fix {K : PySem.W.Frag} {H H' : Hp} (f : Fix H H') : ∀ {ds : List PyData} {xs : List V}, noLs ds = true → DpAll K H xs ds → DpAll K H' xs ds
  | _, _, _, .nil => .nil
  | _, _, n, .cons h t => .cons (dp_fix f (by simp only [noLs, Bool.and_eq_true] at n; exact n.1) h) (dpa_fix f (by simp only [noLs, Bool.and_eq_true] at n; exact n.2) t)
end
theorem noLs_map {α : Type} {f : α → PyData} (h : ∀ a, noL (f a) = true) : ∀ l : List α, noLs (l.map f) = true
  | [] => by simp [noLs]
  | a :: l => by rw [List.map_cons]; simp only [noLs, h a, noLs_map h l, Bool.and_self]
theorem noL_lD (l : Lot) : noL (lD l) = true := by unfold lD; simp only [noL]; exact noLs_map (fun a => by simp [noL]) l
theorem noL_tD (t : Tale) : noL (tD t) = true := by unfold tD; simp only [noL]; exact noLs_map noL_lD t
theorem noL_rm (r : Rm) : noL (rmD r) = true := by unfold rmD; simp [noL, noLs, noL_tD]
theorem noL_st (s : Stp) : noL (stD s) = true := by unfold stD; simp [noL, noLs]
theorem noL_jn (j : Jn) : noL (jnD j) = true := by unfold jnD; simp [noL, noLs, noL_st]
theorem nmB_len {x : Str} (h : nmB x = true) : x.length ≤ 8 := by
  unfold nmB at h
  rw [Bool.and_eq_true, decide_eq_true_eq] at h
  exact h.1
theorem smE_rm {r : Rm} (h1 : nmB r.1 = true) (h2 : r.2.length ≤ 1000) (h3 : ∀ l ∈ r.2, l.length ≤ 1000 ∧ ∀ x ∈ l, nmB x = true) : SmE (rmD r) := by
  intro x hx
  have hx : x = .str r.1 ∨ x = tD r.2 := by simpa using hx
  rcases hx with rfl | rfl
  · exact ⟨(by show r.1.length ≤ 1000; have := nmB_len h1; omega), trivial⟩
  · refine ⟨trivial, by rw [List.length_map]; exact h2, fun d hd => ?_⟩
    obtain ⟨l, hl, rfl⟩ := List.mem_map.mp hd
    refine ⟨by rw [List.length_map]; exact (h3 l hl).1, fun e he => ?_⟩
    obtain ⟨x, hx, rfl⟩ := List.mem_map.mp he
    show x.length ≤ 1000
    have := nmB_len ((h3 l hl).2 x hx)
    omega
theorem smJ_jn {j : Jn} (h1 : nmB j.1.1 = true) (h2 : nmB j.2.1 = true) : SmJ (jnD j) := by
  have s : ∀ s : Stp, nmB s.1 = true → SmS (stD s) := fun s h x hx => by
    have hx : x = .str s.1 ∨ x = .int s.2 := by simpa using hx
    rcases hx with rfl | rfl
    · show s.1.length ≤ 1000; have := nmB_len h; omega
    · trivial
  intro x hx
  have hx : x = stD j.1 ∨ x = stD j.2 := by simpa using hx
  rcases hx with rfl | rfl
  · exact s _ h1
  · exact s _ h2
end R0

/-! sorted of a list of data: texts, ints, tuples of these; tuples of which the first is empty too -/
namespace PySem.SeqAt
open AutoSeq1 (wpAny_loadPart')
open MeetsSeq MeetsSeq2 MeetsSeq3 SeqRoads2
section
variable {A : Around} {s : Shared}
theorem call_tuple_lt {prog : Program} {w : World} {E : Value → Shared → Prop} {Q : Value → Shared → Prop} {l b : Addr} {items items2 : Array Value} {e r : Nat → Bool} (hl : s.heap.IsTuple l items) (hb : s.heap.IsTuple b items2)
    (he : ∀ j (h1 : j < items.size) (h2 : j < items2.size), EqAt A.in1 s items[j] items2[j] (e j)) (hr : ∀ j (h1 : j < items.size) (h2 : j < items2.size), e j = false → RcLt A.in1 s items[j] items2[j] (r j))
    (h : Q (.bool (firstLt e r (decide (items.size < items2.size)) (List.range (min items.size items2.size)))) s) : wpAny (model prog w) A (call (.builtin "tuple.__lt__") [.ref l, .ref b]) Q E s := by
  obtain ⟨⟨cls, dd, data, sl⟩, ho, hc, n, hd⟩ := id hl
  obtain ⟨⟨cls2, dd2, data2, sl2⟩, ho2, hc2, n2, hd2⟩ := id hb
  simp only at hc hd hc2 hd2
  subst hc hd hc2 hd2
  exact call_meets F.slot_tuple_lt ⟨_, ho, rfl⟩ F.entry_tuple_lt (F.args_tuple_lt_2 _ _) (tuple_ltAt l b items items2 n n2 dd dd2 sl sl2 e r) ⟨ho, ho2, he, hr, h⟩
end
end PySem.SeqAt
namespace PySem.W
open PySem PySem.Calls PyProof.Rows PySem.SeqAt
section
variable {prog : Program} {w : World} {A : Around} {E : Value → Shared → Prop} {s : Shared}
theorem oneLt_tup {xs ys : List PyData} {a b : Value} {as bs : List Addr} {Q : Bool → Shared → Prop} (ra : Reads s.heap a (.tuple xs) as) (rb : Reads s.heap b (.tuple ys) bs) (hal : alikeAll xs ys = true)
    (hu : A.units + min (PyData.depth (.tuple xs)) (PyData.depth (.tuple ys)) < cLine) (hq : Q (dataLt (.tuple xs) (.tuple ys)) s) : wpAny (model prog w) A (oneLt' true a b) Q E s := by
  cases ra with
  | @tuple l o vs n _ as₁ h1 h2 h3 h4 =>
    cases rb with
    | @tuple l' o' vs' n' _ bs₁ k1 k2 k3 k4 =>
      have n1 : vs.size = xs.length := by simpa using SeqAt.ReadsAll.length _ _ _ h4
      have n2 : vs'.size = ys.length := by simpa using SeqAt.ReadsAll.length _ _ _ k4
      rw [dataLt_tuple, ← firstLt_toks xs ys hal, ← n1, ← n2] at hq
      rw [oneLt'_eq]
      simp only [if_true]
      refine wpAny_bind (wpAny_cRoomFor (room_here hu) ?_)
      refine wpAny_bind (wpAny_callSpecialIfBound?_slot (T := "tuple") ⟨_, h1, h2⟩ F.slot_tuple_lt (call_tuple_lt (e := pairEq xs ys) (r := fun j => dataLt (xs.getD j .none) (ys.getD j .none)) ⟨_, h1, h2, _, h3⟩ ⟨_, k1, k2, _, k3⟩ (fun j j1 j2 => ?_) (fun j j1 j2 hj => ?_) ?_))
      · have := eqAt_alikeAll xs ys A.in1 s vs.toList vs'.toList _ _ h4 k4 hal (room_in hu) j (by simpa using j1) (by simpa using j2)
        simpa using this
      · have := rcLt_alikeAll xs ys A.in1 s vs.toList vs'.toList _ _ h4 k4 hal (room_in hu) j (by simpa using j1) (by simpa using j2) hj
        simpa using this
      · exact wpAny_truthy_bool hq
/-- tuples, the first of them empty -/
def Tup0 (ds : List PyData) : Prop := (∀ d, d ∈ ds → ∃ xs, d = .tuple xs) ∧ ∃ r, ds = .tuple [] :: r
theorem tup_firsts {M : Model} {ds : List PyData} : ∀ {vs : List Value} {ds : List PyData}, EachIs (fun v d => ∃ as, Reads s.heap v d as) vs ds → (∀ d, d ∈ ds → ∃ xs, d = .tuple xs) →
    ∃ fs : List (Option Value), fs.length = vs.length ∧ (∀ r, ds = .tuple [] :: r → fs[0]? = some none) ∧ ∀ {Q : List (Option Value) → Shared → Prop}, Q fs s → wpAny M A (vs.mapM firstOfTuple') Q E s
  | _, _, .nil, _ => ⟨[], rfl, fun r e => (by cases e), fun h => (by rw [List.mapM_nil]; exact wpAny_pure h)⟩
  | _, _, .cons (a := v) (b := d) ⟨as, r⟩ t, ht => by
    obtain ⟨fs, h1, h2, h3⟩ := tup_firsts (M := M) (ds := ds) t fun d hd => ht d (List.mem_cons_of_mem _ hd)
    obtain ⟨xs, rfl⟩ := ht d (List.mem_cons_self ..)
    cases r with
    | @tuple a o ys n _ _ ho hc hd hr =>
      refine ⟨ys[0]? :: fs, by rw [List.length_cons, List.length_cons, h1], fun r e => ?_, fun {Q} h => ?_⟩
      · cases e
        have : ys.toList = [] := by
          generalize ys.toList = l at hr
          cases hr; rfl
        have e2 : ys[0]? = none := by rw [← Array.getElem?_toList, this]; rfl
        rw [e2]; rfl
      · rw [List.mapM_cons]
        refine wpAny_bind ?_
        rw [kas_first_eq]
        refine wpAny_bind (Looks.here (show Looks M s.heap (typeOf (.ref a)) o.cls from (Looks.ld ho).andThen .now) ?_)
        rw [hc, if_neg (by first | decide | simp)]
        refine wpAny_bind (listItems_at ho hd (wpAny_pure ?_))
        exact wpAny_bind (h3 (Q := fun bs s' => wpAny M A (pure (ys[0]? :: bs)) Q E s') (wpAny_pure h))
theorem tup0_kind {M : Model} {vs : List Value} {ds : List PyData} {Q : SortKind → Shared → Prop} (e : EachIs (fun v d => ∃ as, Reads s.heap v d as) vs ds) (h0 : Tup0 ds) (h : Q oneType' s) :
    wpAny M A (keyKind' vs.toArray) Q E s := by
  obtain ⟨ht, r, er⟩ := h0
  obtain ⟨fs, h1, h2, h3⟩ := tup_firsts (M := M) (A := A) (E := E) (ds := ds) e ht
  have h2 := h2 r er
  have hne : vs ≠ [] := by
    rintro rfl
    have := e.length
    rw [er] at this
    simp at this
  rw [kat_kind_eq, List.mapM_toArray, map_eq_pure_bind]
  refine wpAny_bind (wpAny_bind (h3 (wpAny_pure ?_)))
  have hfs : ∃ fr, fs = none :: fr := by
    cases fs with
    | nil => simp at h2
    | cons x fr => simp at h2; subst h2; exact ⟨fr, rfl⟩
  obtain ⟨fr, rfl⟩ := hfs
  have hall : ((none :: fr : List (Option Value)).toArray.all fun x => x.isSome) = false := by simp
  rw [if_neg (by rw [hall]; decide)]
  have hf0 : (((none :: fr : List (Option Value)).toArray[0]?).bind id).isSome = false := by simp
  rw [if_neg (by rw [hf0]; decide)]
  have hT : ∀ v ∈ vs, Looks M s.heap (typeOf v) (.type "tuple") := fun v hv => by
    obtain ⟨d, hd, as, r⟩ := e.left v hv
    obtain ⟨xs, rfl⟩ := ht d hd
    exact looks_reads r
  obtain ⟨v₁, rest, rfl⟩ := List.exists_cons_of_ne_nil hne
  rw [oneTypeOnly'_eq, List.mapM_toArray, map_eq_pure_bind]
  refine wpAny_bind (wpAny_bind (wpAny_bind (kas_mapM (r := .type "tuple") _ (fun v hv Q' hq => (hT v hv).here hq) (wpAny_pure ?_))))
  have hall2 : ((List.map (fun _ => Value.type "tuple") (v₁ :: rest)).toArray.all fun x => x == Value.type "tuple") = true := by
    simp only [List.all_toArray, List.all_map, List.all_eq_true]
    intro _ _
    exact beq_self_eq_true _
  have h0 : (List.map (fun _ => Value.type "tuple") (v₁ :: rest)).toArray[0]? = some (Value.type "tuple") := by simp
  rw [h0]
  simp only [hall2, if_true]
  exact wpAny_pure (wpAny_pure h)
theorem SortsAt.tup0 {vs : List Value} {ds : List PyData} (e : EachIs (fun v d => ∃ as, Reads s.heap v d as) vs ds) (hal : AllAlike ds) (hk : Tup0 ds) (hu : ∀ d, d ∈ ds → A.units + d.depth < cLine) : SortsAt prog w A s (dataKind s.heap ds) vs := by
  have room : ∀ {d d' : PyData}, d ∈ ds → A.units + min d.depth d'.depth < cLine := fun {d d'} hd => Nat.lt_of_le_of_lt (Nat.add_le_add_left (Nat.min_le_left _ _) _) (hu d hd)
  refine ⟨fun v hv => ?_, oneType', ?_, fun h2 E Q hq => tup0_kind e hk hq⟩
  · obtain ⟨d, hd, as, r⟩ := e.left v hv
    exact ⟨_, dataKind_some hal hd r⟩
  · intro E x y a b Q ha hb hq
    obtain ⟨d, as, hd, ra, rfl⟩ := dataKind_inv ha
    obtain ⟨d', as', hd', rb, rfl⟩ := dataKind_inv hb
    rw [keyLt'_oneType]
    have hr := room (d' := d') hd
    have hdd := hal d hd d' hd'
    obtain ⟨xs, rfl⟩ := hk.1 d hd
    obtain ⟨ys, rfl⟩ := hk.1 d' hd'
    exact oneLt_tup ra rb (by simpa [alike] using hdd) hr hq
section
variable {β : Type} {vs : List Value} {bs : List β} {enc : β → PyData} {R : Value → β → Prop}
theorem sorted_dataT {l : Addr} {Q : Value → Shared → Prop} (hl : s.heap.IsList l vs.toArray) (e : EachIs R vs bs) (er : EachIs (fun v b => ∃ as, Reads s.heap v (enc b) as) vs bs) (hal : AllAlike (bs.map enc)) (hk : Sortable (bs.map enc) ∨ Tup0 (bs.map enc)) (hL : bs.length ≤ sizeLine)
    (hu : ∀ b, b ∈ bs → A.units + 2 + (enc b).depth < cLine) (h : ∀ out, out.length = bs.length → EachIs R out (bs.mergeSort (dataLe false enc)) → Q (.ref (s.heap.objs.size + 1)) { s with heap := sortedAll s.heap vs (List.toArray out) }) :
    wpAny (model prog w) A (call (.builtin "sorted") [.ref l]) Q E s := by
  rcases hk with hk | hk
  · exact sorted_data hl e er hal hk hL hu h
  have er' : EachIs (fun v b => ∃ as, Reads (sortingHeap (copyHeap s.heap vs) (s.heap.objs.size + 1) vs) v (enc b) as) vs bs := er.mono fun _ _ ⟨as, r⟩ => ⟨as, PyProof.Rows.Reads.keeps (fun _ _ => sorting_copy_old) r⟩
  exact sorted_vals hl (SortsAt.tup0 (s := { s with heap := sortingHeap (copyHeap s.heap vs) (s.heap.objs.size + 1) vs }) (each_map (R := fun v d => ∃ as, Reads (sortingHeap (copyHeap s.heap vs) (s.heap.objs.size + 1) vs) v d as) enc er') hal hk (bound_map hu)) (by rw [e.length]; exact hL)
    (h _ (by rw [sortVals_length false rfl]; exact e.length) (sortVals_data false e er' hal))
end
end
end PySem.W
namespace L2
open PySem PySem.Spec PyProof.Rows PySem.W
/-- sorted(xs), xs a list that reads as data (bs: the items, each with its datum): a new list -/
def rSortD (K : PySem.W.Frag) : List V → Hp → VK → Prop := fun vs H Q => ∃ (a : Addr) (bs : List (V × PyData)), vs = [V.ref a] ∧ SqL K H a (bs.map (·.1)) ∧ (∀ b ∈ bs, Dp K H b.1 b.2 ∧ b.2.depth ≤ 20) ∧ AllAlike (bs.map (·.2)) ∧ (Sortable (bs.map (·.2)) ∨ Tup0 (bs.map (·.2))) ∧
  ∀ p, H p = none → Q (.ref p) (upd H p (.lst ((bs.mergeSort (dataLe false (·.2))).map (·.1))))
theorem each_vals : ∀ {us : List Value} {bs : List (V × PyData)}, EachIs (fun u b => RelV b.1 u) us bs → Vals (bs.map (·.1)) us
  | _, _, .nil => .nil
  | _, _, .cons h t => .cons h (each_vals t)
theorem vals_each : ∀ {us : List Value} {bs : List (V × PyData)}, Vals (bs.map (·.1)) us → EachIs (fun u b => RelV b.1 u) us bs
  | _, [], h => by cases h; exact .nil
  | _, b :: bs, h => by cases h with | cons h1 h2 => exact .cons h1 (vals_each h2)
section
variable {X : Cx}
theorem cr_sortD (hu : X.A.units + 64 < cLine) : CallR X (.builtin "sorted") (rSortD X.K) := by
  intro pins s σ H vs us Q I r h
  obtain ⟨a, bs, rfl, hs, hx, hal, hk, q⟩ := h
  obtain ⟨its, rv, hl, hz⟩ := I.list hs
  obtain ⟨u, rfl, ru⟩ := vals1 r
  obtain rfl : u = Value.ref a := ru
  have e := vals_each rv
  have hm : ∀ {us : List Value} {cs : List (V × PyData)}, EachIs (fun u b => RelV b.1 u) us cs → (∀ b ∈ cs, b ∈ bs) → EachIs (fun v b => ∃ as, Reads s.heap v ((·.2) b) as) us cs := by
    intro us cs h
    induction h with
    | nil => intro _; exact .nil
    | cons h1 _ ih => intro hb; exact .cons (Dp.reads I _ _ _ (hx _ (hb _ (List.mem_cons_self ..))).1 h1) (ih fun b m => hb b (List.mem_cons_of_mem _ m))
  rw [List.length_map] at hz
  refine sorted_dataT (enc := (·.2)) hl.isList e (hm e fun _ h => h) hal hk hz (fun b hb => ?_) fun out ho eo => ?_
  · have := (hx b hb).2
    omega
  · obtain ⟨n, hn⟩ := sortedAll_at s.heap its out.toArray
    have hv := each_vals eo
    refine ⟨.ref (s.heap.objs.size + 1), upd H (s.heap.objs.size + 1) (.lst ((bs.mergeSort (dataLe false (·.2))).map (·.1))), I.laid (t' := s.toks) (fun _ _ => sortedAll_old) (Nat.le_succ _) ⟨?_, out, n, hv, hn⟩, rfl, q _ (I.hok.fresh (Nat.le_succ _))⟩
    rw [List.length_map, List.length_mergeSort]
    exact hz
end
end L2

/-! lots of names: their orders, all lots of some names, the least and the greatest of some -/
namespace Lo
open PySem PySem.Spec PyProof.Rows L2 St PySem.W
/-! ### orders -/
def lD (l : List Str) : PyData := .tuple (l.map .str)
def kD (l : List Str) : PyData := .tuple [.int (l.length : Nat), lD l]
def tokL (l : List Str) : List (Int ⊕ List Nat) := keyToksAll (l.map .str)
theorem tok_inj : ∀ {a b : List Str}, tokL a = tokL b → a = b
  | [], [], _ => rfl
  | [], b :: bs, h => by unfold tokL keyToksAll at h; simp at h
  | a :: as, [], h => by unfold tokL keyToksAll at h; simp at h
  | a :: as, b :: bs, h => by
    have h' : (Sum.inl 1 :: ([Sum.inr a.cps.toList] ++ tokL as) : List (Int ⊕ List Nat)) = Sum.inl 1 :: ([Sum.inr b.cps.toList] ++ tokL bs) := h
    simp only [List.cons_append, List.nil_append, List.cons.injEq, true_and, Sum.inr.injEq] at h'
    rw [str_of_cps h'.1, tok_inj h'.2]
section
variable {β : Type} {k : β → PyData}
theorem le_trans (a b c : β) (h : dataLe false k a b = true) (h2 : dataLe false k b c = true) : dataLe false k a c = true := by
  have e : ∀ x y : β, dataLe false k x y = !(lexLt itemOrd (keyToks (k y)) (keyToks (k x))) := fun _ _ => rfl
  rw [e, Bool.not_eq_true'] at h h2 ⊢
  cases q : lexLt itemOrd (keyToks (k c)) (keyToks (k a)) with
  | false => rfl
  | true =>
    rcases lex_negTrans (O := itemOrd) _ (keyToks (k b)) _ q with x | x
    · rw [h2] at x; cases x
    · rw [h] at x; cases x
theorem le_total (a b : β) : (dataLe false k a b || dataLe false k b a) = true := by
  have e : ∀ x y : β, dataLe false k x y = !(lexLt itemOrd (keyToks (k y)) (keyToks (k x))) := fun _ _ => rfl
  rw [e, e]
  cases q : lexLt itemOrd (keyToks (k b)) (keyToks (k a)) with
  | false => rfl
  | true =>
    cases q' : lexLt itemOrd (keyToks (k a)) (keyToks (k b)) with
    | false => rfl
    | true =>
      have := lex_trans (O := itemOrd) _ _ _ q q'
      rw [lex_irrefl] at this; cases this
theorem le_anti (inj : ∀ a b, keyToks (k a) = keyToks (k b) → a = b) {a b : β} (h : dataLe false k a b = true) (h2 : dataLe false k b a = true) : a = b := by
  have e : ∀ x y : β, dataLe false k x y = !(lexLt itemOrd (keyToks (k y)) (keyToks (k x))) := fun _ _ => rfl
  rw [e, Bool.not_eq_true'] at h h2
  exact inj a b (lex_total (O := itemOrd) _ _ h2 h)
theorem sort_uniq (inj : ∀ a b, keyToks (k a) = keyToks (k b) → a = b) {l m : List β} (p : l.Perm m) (hl : l.Pairwise (fun a b => dataLe false k a b = true)) : l = m.mergeSort (dataLe false k) :=
  List.Perm.eq_of_pairwise (fun _ _ _ _ h h2 => le_anti inj h h2) hl (List.pairwise_mergeSort le_trans le_total _) (p.trans (List.mergeSort_perm _ _).symm)
theorem sort_perm (inj : ∀ a b, keyToks (k a) = keyToks (k b) → a = b) {l m : List β} (p : l.Perm m) : l.mergeSort (dataLe false k) = m.mergeSort (dataLe false k) :=
  sort_uniq inj ((List.mergeSort_perm _ _).trans p) (List.pairwise_mergeSort le_trans le_total _)
end
theorem lD_inj (a b : List Str) (h : keyToks (lD a) = keyToks (lD b)) : a = b := tok_inj h
theorem kD_inj (a b : List Str) (h : keyToks (kD a) = keyToks (kD b)) : a = b := by
  have e : ∀ l : List Str, keyToks (kD l) = Sum.inl 1 :: ([Sum.inl ((l.length : Nat) : Int)] ++ (Sum.inl 1 :: (tokL l ++ [Sum.inl 0]))) := fun _ => rfl
  rw [e, e] at h
  simp only [List.cons_append, List.nil_append, List.cons.injEq, true_and] at h
  exact tok_inj (List.append_cancel_right h.2)
def lle : List Str → List Str → Bool := dataLe false lD
def kle : List Str → List Str → Bool := dataLe false kD
theorem alike_strs : ∀ a b : List Str, alikeAll (a.map .str) (b.map .str) = true
  | [], _ => by simp [alikeAll]
  | _ :: _, [] => by simp [alikeAll]
  | x :: xs, y :: ys => by
    show alikeAll (.str x :: xs.map .str) (.str y :: ys.map .str) = true
    rw [alikeAll, alike_strs xs ys]
    simp [alike]
theorem alike_lD (a b : List Str) : alike (lD a) (lD b) = true := by
  show alike (.tuple _) (.tuple _) = true
  unfold alike
  exact alike_strs a b
theorem alike_kD (a b : List Str) : alike (kD a) (kD b) = true := by
  show alike (.tuple [_, _]) (.tuple [_, _]) = true
  rw [alike, alikeAll, alikeAll, alikeAll, alike_lD]
  simp [alike]
theorem kle_len {a b : List Str} (h : kle a b = true) : a.length ≤ b.length := by
  unfold kle at h
  rw [dataLe_eq] at h
  have h : (!dataLt (kD b) (kD a)) = true := h
  rw [Bool.not_eq_true'] at h
  unfold kD at h
  rw [dataLt_pair (by simp [alike]) (alike_lD _ _), dataLt_int] at h
  by_cases c : b.length = a.length
  · omega
  · have e : PyData.eqv (.int ((b.length : Nat) : Int)) (.int ((a.length : Nat) : Int)) = false := by
      simp only [PyData.eqv, beq_eq_false_iff_ne, ne_eq]
      omega
    rw [e] at h
    simp at h
    omega
theorem lle_nil (a : List Str) : lle [] a = true := by
  unfold lle
  rw [dataLe_eq]
  show (!dataLt (lD a) (lD [])) = true
  rw [Bool.not_eq_true']
  cases a with
  | nil => exact lex_irrefl (O := itemOrd) _
  | cons x r =>
    show lexLt itemOrd (Sum.inl 1 :: ([Sum.inr x.cps.toList] ++ tokL r)) [Sum.inl 0] = false
    rw [lex_diff (O := itemOrd) (by simp)]
    rfl
/-! ### all lots -/
def growP (ls : List (List Str)) (n : Str) : List (List Str) := ls ++ ls.map (· ++ [n])
/-- all lots of names, one name after another -/
def LL (ns : List Str) : List (List Str) := ns.foldl growP [[]]
theorem mem_growP : ∀ (ns : List Str) (pre : List Str) (q : List (List Str)), (∀ x, x ∈ q ↔ x.Sublist pre) → ∀ x, x ∈ ns.foldl growP q ↔ x.Sublist (pre ++ ns)
  | [], pre, q, h, x => by simpa using h x
  | n :: ns, pre, q, h, x => by
    rw [List.foldl_cons, mem_growP ns (pre ++ [n]) (growP q n) fun y => ?_]
    · rw [List.append_assoc]; rfl
    · unfold growP
      rw [List.mem_append, h y, List.mem_map]
      constructor
      · rintro (z | ⟨z, hz, rfl⟩)
        · exact z.trans (List.sublist_append_left _ _)
        · exact List.Sublist.append ((h z).mp hz) (List.Sublist.refl _)
      · intro z
        obtain ⟨a, b, rfl, h1, h2⟩ := List.sublist_append_iff.mp z
        rcases List.sublist_cons_iff.mp h2 with h3 | ⟨r, rfl, h3⟩
        · obtain rfl := List.eq_nil_of_sublist_nil h3
          exact .inl (by simpa using h1)
        · obtain rfl := List.eq_nil_of_sublist_nil h3
          exact .inr ⟨a, (h a).mpr h1, rfl⟩
theorem mem_LL {ns x : List Str} : x ∈ LL ns ↔ x.Sublist ns := by
  have := mem_growP ns [] [[]] (fun x => by simp) x
  rwa [List.nil_append] at this
theorem nodup_growP : ∀ (ns : List Str) (q : List (List Str)), ns.Nodup → q.Nodup → (∀ x ∈ q, ∀ n ∈ ns, n ∉ x) → (ns.foldl growP q).Nodup
  | [], q, _, h, _ => h
  | n :: ns, q, nd, h, f => by
    obtain ⟨n1, n2⟩ := List.nodup_cons.mp nd
    refine nodup_growP ns (growP q n) n2 ?_ fun x hx m hm => ?_
    · unfold growP
      refine List.nodup_append.mpr ⟨h, List.pairwise_map.mpr (h.imp fun ne e => ne (List.append_cancel_right e)), fun a ha b hb e => ?_⟩
      obtain ⟨c, hc, rfl⟩ := List.mem_map.mp hb
      exact f a ha n (List.mem_cons_self ..) (by rw [e]; exact List.mem_append_right _ (List.mem_singleton.mpr rfl))
    · unfold growP at hx
      rcases List.mem_append.mp hx with hx | hx
      · exact f x hx m (List.mem_cons_of_mem _ hm)
      · obtain ⟨c, hc, rfl⟩ := List.mem_map.mp hx
        intro z
        rcases List.mem_append.mp z with z | z
        · exact f c hc m (List.mem_cons_of_mem _ hm) z
        · rw [List.mem_singleton.mp z] at hm
          exact n1 hm
theorem nodup_LL {ns : List Str} (nd : ns.Nodup) : (LL ns).Nodup := nodup_growP ns [[]] nd (by simp) (by simp)
theorem growP_len : ∀ (ns : List Str) (q : List (List Str)), (ns.foldl growP q).length = q.length * 2 ^ ns.length
  | [], q => by simp
  | n :: ns, q => by
    rw [List.foldl_cons, growP_len ns]
    unfold growP
    simp only [List.length_append, List.length_map, List.length_cons]
    rw [Nat.pow_succ, Nat.mul_comm (2 ^ ns.length) 2, ← Nat.mul_assoc]
    congr 1
    omega
theorem LL_len {ns : List Str} (h : ns.length ≤ 4) : (LL ns).length ≤ 16 := by
  have := growP_len ns [[]]
  have h2 : 2 ^ ns.length ≤ 2 ^ 4 := Nat.pow_le_pow_right (by decide) h
  unfold LL
  simp at this
  omega
theorem growP_head : ∀ (ns : List Str) (q : List (List Str)), (∃ r, q = [] :: r) → ∃ r, ns.foldl growP q = [] :: r
  | [], _, h => h
  | n :: ns, q, ⟨r, e⟩ => growP_head ns _ ⟨r ++ q.map (· ++ [n]), by unfold growP; rw [e]; rfl⟩
/-- lots_among: sorted(lots)[1:] -/
def LA (ns : List Str) : List (List Str) := ((LL (lotS ns)).mergeSort lle).drop 1
theorem LA_prog (ns : List Str) : (LL (lotS ns)).mergeSort lle = [] :: LA ns := by
  obtain ⟨r, e⟩ := growP_head (lotS ns) [[]] ⟨[], rfl⟩
  have e : LL (lotS ns) = [] :: r := e
  have s : ([] :: r.mergeSort lle : List (List Str)) = (LL (lotS ns)).mergeSort lle := by
    refine sort_uniq lD_inj ?_ (List.pairwise_cons.mpr ⟨fun a _ => lle_nil a, List.pairwise_mergeSort le_trans le_total _⟩)
    rw [e]
    exact List.Perm.cons _ (List.mergeSort_perm _ _)
  unfold LA
  rw [← s]; rfl
/-- ordered_lots -/
def OL (ns : List Str) : List (List Str) := (LL (lotS ns)).mergeSort kle
theorem OL_prog (ns : List Str) : ([] :: LA ns).mergeSort kle = OL ns := by
  rw [← LA_prog]
  exact sort_perm kD_inj (List.mergeSort_perm _ _)
theorem mem_OL {ns x : List Str} : x ∈ OL ns ↔ x.Sublist (lotS ns) := (List.mergeSort_perm _ _).mem_iff.trans mem_LL
theorem nodup_OL (ns : List Str) : (OL ns).Nodup := (List.mergeSort_perm _ _).nodup_iff.mpr (nodup_LL (asc_nodupS (asc_lotS ns)))
theorem OL_congr {ns ms : List Str} (h : ∀ x, x ∈ ns ↔ x ∈ ms) : OL ns = OL ms := by unfold OL; rw [lotS_congr h]
theorem OL_asc (ns : List Str) : (OL ns).Pairwise (fun a b => kle a b = true) := List.pairwise_mergeSort le_trans le_total _
/-! ### part of -/
def prt (xs ys : List Str) : Bool := xs.all fun x => decide (x ∈ ys)
theorem prt_iff {xs ys : List Str} : prt xs ys = true ↔ ∀ x ∈ xs, x ∈ ys := by
  unfold prt
  rw [List.all_eq_true]
  exact ⟨fun h x m => of_decide_eq_true (h x m), fun h x m => decide_eq_true (h x m)⟩
theorem nodup_len {α : Type} [DecidableEq α] : ∀ {l m : List α}, l.Nodup → (∀ x ∈ l, x ∈ m) → l.length ≤ m.length
  | [], _, _, _ => Nat.zero_le _
  | x :: l, m, nd, h => by
    obtain ⟨n1, n2⟩ := List.nodup_cons.mp nd
    have ih := nodup_len (l := l) (m := m.erase x) n2 fun y hy => (List.mem_erase_of_ne (show y ≠ x from fun z => n1 (by rw [← z]; exact hy))).mpr (h y (List.mem_cons_of_mem _ hy))
    have e := List.length_erase_of_mem (h x (List.mem_cons_self ..))
    have p := List.length_pos_of_mem (h x (List.mem_cons_self ..))
    rw [List.length_cons]; omega
theorem asc_part {x y : List Str} (ax : x.Pairwise sLt) (ay : y.Pairwise sLt) (h : prt x y = true) (l : y.length ≤ x.length) : x = y := by
  have nx := asc_nodupS ax
  refine (lotS_eq ax fun z => ⟨prt_iff.mp h z, fun hz => ?_⟩).trans (lotS_eq ay fun _ => Iff.rfl).symm
  refine Decidable.byContradiction fun nz => ?_
  have := nodup_len (l := z :: x) (m := y) (List.nodup_cons.mpr ⟨nz, nx⟩) fun w hw => by
    rcases List.mem_cons.mp hw with rfl | hw
    · exact hz
    · exact prt_iff.mp h w hw
  rw [List.length_cons] at this
  omega
theorem prt_trans {x y z : List Str} (h : prt x y = true) (k : prt y z = true) : prt x z = true := prt_iff.mpr fun a m => prt_iff.mp k a (prt_iff.mp h a m)
/-! ### what is kept of a row, one after another -/
section
variable {α : Type} (R : α → α → Bool) (p : α → Bool)
def keepF (L : List α) : List α := L.foldl (fun ks x => if !(ks.any fun y => R y x) && p x then ks ++ [x] else ks) []
variable [DecidableEq α]
def minB (L : List α) (x : α) : Bool := p x && L.all fun y => !(p y && (R y x && !decide (y = x)))
variable {R p}
theorem keepF_snoc (L : List α) (x : α) : keepF R p (L ++ [x]) = if !((keepF R p L).any fun y => R y x) && p x then keepF R p L ++ [x] else keepF R p L := by
  unfold keepF; rw [List.foldl_append]; rfl
theorem keepF_mem : ∀ {L : List α} {x : α}, x ∈ keepF R p L → x ∈ L ∧ p x = true := fun {L} => by
  have : ∀ (r : List α) (x : α), x ∈ keepF R p r.reverse → x ∈ r.reverse ∧ p x = true := fun r => by
    induction r with
    | nil => intro x h; cases h
    | cons a r ih =>
      intro x h
      rw [List.reverse_cons, keepF_snoc] at h
      split at h
      · rename_i c
        rcases List.mem_append.mp h with h | h
        · exact ⟨by rw [List.reverse_cons]; exact List.mem_append_left _ (ih x h).1, (ih x h).2⟩
        · rw [List.mem_singleton.mp h]
          rw [Bool.and_eq_true] at c
          exact ⟨by rw [List.reverse_cons]; exact List.mem_append_right _ (List.mem_singleton.mpr rfl), c.2⟩
      · exact ⟨by rw [List.reverse_cons]; exact List.mem_append_left _ (ih x h).1, (ih x h).2⟩
  intro x h
  have := this L.reverse x (by rwa [List.reverse_reverse])
  rwa [List.reverse_reverse] at this
/-- each wanted one has a kept one below it -/
theorem keepF_below (tr : ∀ x y z, R x y = true → R y z = true → R x z = true) : ∀ (r : List α) (x : α), x ∈ r.reverse → p x = true → ∃ y ∈ keepF R p r.reverse, y = x ∨ R y x = true
  | [], x, h, _ => by cases h
  | a :: r, x, h, hp => by
    rw [List.reverse_cons] at h ⊢
    rw [keepF_snoc]
    rcases List.mem_append.mp h with h | h
    · obtain ⟨y, m, c⟩ := keepF_below tr r x h hp
      refine ⟨y, ?_, c⟩
      split
      · exact List.mem_append_left _ m
      · exact m
    · obtain rfl := List.mem_singleton.mp h
      cases c : (keepF R p r.reverse).any fun y => R y x with
      | true =>
        obtain ⟨y, m, e⟩ := List.any_eq_true.mp c
        rw [if_neg (by simp)]
        exact ⟨y, m, .inr e⟩
      | false =>
        rw [if_pos (by rw [hp]; rfl)]
        exact ⟨x, List.mem_append_right _ (List.mem_singleton.mpr rfl), .inl rfl⟩
theorem keepF_rev (tr : ∀ x y z, R x y = true → R y z = true → R x z = true) : ∀ (r : List α), r.Nodup → r.reverse.Pairwise (fun a b => R b a = false) → keepF R p r.reverse = r.reverse.filter (minB R p r.reverse)
  | [], _, _ => rfl
  | a :: r, nd, pw => by
    rw [List.reverse_cons] at pw ⊢
    obtain ⟨n1, n2⟩ := List.nodup_cons.mp nd
    obtain ⟨p1, _, p3⟩ := List.pairwise_append.mp pw
    have ih := keepF_rev tr r n2 p1
    rw [keepF_snoc, List.filter_append]
    have e1 : r.reverse.filter (minB R p (r.reverse ++ [a])) = r.reverse.filter (minB R p r.reverse) := List.filter_congr fun x hx => by
      unfold minB
      rw [List.all_append]
      have : ([a].all fun y => !(p y && (R y x && !decide (y = x)))) = true := by
        rw [List.all_cons, p3 x hx a (List.mem_singleton.mpr rfl)]
        simp
      rw [this, Bool.and_true]
    rw [e1, ← ih]
    have e2 : minB R p (r.reverse ++ [a]) a = (!((keepF R p r.reverse).any fun y => R y a) && p a) := by
      unfold minB
      rw [List.all_append]
      have : ([a].all fun y => !(p y && (R y a && !decide (y = a)))) = true := by simp
      rw [this, Bool.and_true, Bool.and_comm]
      cases hp : p a with
      | false => rw [Bool.and_false, Bool.and_false]
      | true =>
        rw [Bool.and_true, Bool.and_true, Bool.eq_iff_iff, List.all_eq_true, Bool.not_eq_true', List.any_eq_false]
        constructor
        · intro h y m z
          obtain ⟨m1, m2⟩ := keepF_mem m
          have := h y m1
          rw [m2, z] at this
          simp at this
          rw [this] at m1
          exact n1 (List.mem_reverse.mp m1)
        · intro h y m
          cases hy : p y with
          | false => rfl
          | true =>
            cases hr : R y a with
            | false => rfl
            | true =>
              obtain ⟨z, mz, c⟩ := keepF_below (p := p) tr r y m hy
              exfalso
              rcases c with rfl | c
              · exact h z mz hr
              · exact h z mz (tr z y a c hr)
    rw [← e2]
    cases c : minB R p (r.reverse ++ [a]) a with
    | true => rw [if_pos rfl, List.filter_cons_of_pos c]; rfl
    | false => rw [if_neg (by simp), List.filter_cons_of_neg (by rw [c]; simp)]; simp
theorem keepF_eq (tr : ∀ x y z, R x y = true → R y z = true → R x z = true) {L : List α} (nd : L.Nodup) (pw : L.Pairwise fun a b => R b a = false) : keepF R p L = L.filter (minB R p L) := by
  have := keepF_rev (p := p) tr L.reverse ((List.reverse_perm L).nodup_iff.mpr nd) (by rwa [List.reverse_reverse])
  rwa [List.reverse_reverse] at this
theorem minB_perm {L M : List α} (h : L.Perm M) (x : α) : minB R p L x = minB R p M x := by
  unfold minB
  congr 1
  rw [Bool.eq_iff_iff, List.all_eq_true, List.all_eq_true]
  exact ⟨fun q y m => q y (h.mem_iff.mpr m), fun q y m => q y (h.mem_iff.mp m)⟩
end
/-- the law's: those of the wanted in which no other wanted one lies -/
def minsF {α : Type} [DecidableEq α] (R : α → α → Bool) (ls : List α) : List α := ls.filter fun x => !(ls.any fun y => !decide (y = x) && R y x)
theorem mins_filter {α : Type} [DecidableEq α] {R : α → α → Bool} {p : α → Bool} (L : List α) : minsF R (L.filter p) = L.filter (minB R p L) := by
  unfold minsF
  rw [List.filter_filter]
  refine List.filter_congr fun x _ => ?_
  unfold minB
  rw [Bool.and_comm]
  congr 1
  rw [Bool.eq_iff_iff, Bool.not_eq_true', List.any_eq_false, List.all_eq_true]
  constructor
  · intro h y m
    cases hy : p y with
    | false => rfl
    | true =>
      have := h y (List.mem_filter.mpr ⟨m, hy⟩)
      cases hr : R y x with
      | false => rfl
      | true =>
        rw [hr] at this
        simp at this
        simp [this]
  · intro h y m
    obtain ⟨m1, m2⟩ := List.mem_filter.mp m
    have := h y m1
    rw [m2] at this
    cases hr : R y x with
    | false => simp
    | true =>
      rw [hr] at this
      simp at this
      simp [this]
/-- least_ones over the ordered lots, and the law's least -/
theorem least_eq {ns : List Str} {p : List Str → Bool} : keepF prt p (OL ns) = (minsF prt ((LL (lotS ns)).filter p)).mergeSort kle := by
  have asc : ∀ x ∈ OL ns, x.Pairwise sLt := fun x m => (asc_lotS ns).sublist (mem_OL.mp m)
  have pw : (OL ns).Pairwise fun a b => prt b a = false := by
    have h := (OL_asc ns).and (nodup_OL ns)
    refine h.imp_of_mem fun {a b} ma mb ⟨h1, h2⟩ => ?_
    rw [Bool.eq_false_iff]
    intro z
    exact h2 (asc_part (asc b mb) (asc a ma) z (kle_len h1)).symm
  rw [keepF_eq (R := prt) (fun x y z h k => prt_trans h k) (nodup_OL ns) pw, mins_filter]
  refine sort_uniq kD_inj ?_ ((OL_asc ns).filter _)
  rw [show (LL (lotS ns)).filter (minB prt p (LL (lotS ns))) = (LL (lotS ns)).filter (minB prt p (OL ns)) from List.filter_congr fun x _ => minB_perm (List.mergeSort_perm _ _).symm x]
  exact (List.mergeSort_perm _ _).filter _
def trp (x y : List Str) : Bool := prt y x
theorem great_keep {ns : List Str} {p : List Str → Bool} : keepF trp p (OL ns).reverse = (OL ns).reverse.filter (minB trp p (OL ns).reverse) := by
  have asc : ∀ x ∈ OL ns, x.Pairwise sLt := fun x m => (asc_lotS ns).sublist (mem_OL.mp m)
  have pw : (OL ns).reverse.Pairwise fun a b => trp b a = false := by
    rw [List.pairwise_reverse]
    have h := (OL_asc ns).and (nodup_OL ns)
    refine h.imp_of_mem fun {a b} ma mb ⟨h1, h2⟩ => ?_
    show prt b a = false
    rw [Bool.eq_false_iff]
    intro z
    exact h2 (asc_part (asc b mb) (asc a ma) z (kle_len h1)).symm
  exact keepF_eq (R := trp) (fun x y z a b => prt_trans (x := z) (y := y) (z := x) b a) ((List.reverse_perm _).nodup_iff.mpr (nodup_OL ns)) pw
/-- greatest_ones over the ordered lots, and the law's greatest -/
theorem greatest_eq {ns : List Str} {p : List Str → Bool} : (keepF trp p (OL ns).reverse).mergeSort lle = (minsF trp ((LL (lotS ns)).filter p)).mergeSort lle := by
  have asc : ∀ x ∈ OL ns, x.Pairwise sLt := fun x m => (asc_lotS ns).sublist (mem_OL.mp m)
  have pw : (OL ns).reverse.Pairwise fun a b => trp b a = false := by
    rw [List.pairwise_reverse]
    have h := (OL_asc ns).and (nodup_OL ns)
    refine h.imp_of_mem fun {a b} ma mb ⟨h1, h2⟩ => ?_
    show prt b a = false
    rw [Bool.eq_false_iff]
    intro z
    exact h2 (asc_part (asc b mb) (asc a ma) z (kle_len h1)).symm
  rw [keepF_eq (R := trp) (fun x y z a b => prt_trans (x := z) (y := y) (z := x) b a) ((List.reverse_perm _).nodup_iff.mpr (nodup_OL ns)) pw, mins_filter]
  refine sort_perm lD_inj ?_
  have pm : (OL ns).reverse.Perm (LL (lotS ns)) := (List.reverse_perm _).trans (List.mergeSort_perm _ _)
  rw [show (LL (lotS ns)).filter (minB trp p (LL (lotS ns))) = (LL (lotS ns)).filter (minB trp p (OL ns).reverse) from List.filter_congr fun x _ => minB_perm pm.symm x]
  exact pm.filter _
end Lo

namespace R0
open PySem PySem.Spec PyProof.Rows L2 Hb St Sq Ow En Zp RZ Rd Xb Da Wa
theorem zip_fst {α β : Type} {R : α → β → Prop} {as : List α} {bs : List β} (h : All2 R as bs) : (as.zip bs).map (·.1) = as := by
  induction h with
  | nil => rfl
  | cons _ _ ih => simpa using ih
theorem zip_snd {α β : Type} {R : α → β → Prop} {as : List α} {bs : List β} (h : All2 R as bs) : (as.zip bs).map (·.2) = bs := by
  induction h with
  | nil => rfl
  | cons _ _ ih => simpa using ih
theorem zip_mem {α β : Type} {R : α → β → Prop} {as : List α} {bs : List β} (h : All2 R as bs) : ∀ z ∈ as.zip bs, R z.1 z.2 ∧ z.2 ∈ bs := by
  induction h with
  | nil => intro z hz; cases hz
  | cons r _ ih =>
    intro z hz
    rw [List.zip_cons_cons] at hz
    rcases List.mem_cons.mp hz with rfl | hz
    · exact ⟨r, List.mem_cons_self ..⟩
    · exact ⟨(ih z hz).1, List.mem_cons_of_mem _ (ih z hz).2⟩
theorem all2_maps {α β γ : Type} {R : α → β → Prop} {f : γ → α} {g : γ → β} : ∀ {zs : List γ}, (∀ z ∈ zs, R (f z) (g z)) → All2 R (zs.map f) (zs.map g)
  | [], _ => .nil
  | z :: zs, h => .cons (h z (List.mem_cons_self ..)) (all2_maps fun y hy => h y (List.mem_cons_of_mem _ hy))
theorem srt_pairs {γ : Type} {enc : γ → PyData} {R : V → γ → Prop} {its : List V} {gs : List γ} (al : All2 R its gs) : All2 R ((((its.zip gs).map fun z => (z.1, enc z.2)).mergeSort (PySem.W.dataLe false (·.2))).map (·.1)) (gs.mergeSort (PySem.W.dataLe false enc)) := by
  let f : V × γ → V × PyData := fun z => (z.1, enc z.2)
  let r : V × γ → V × γ → Bool := fun a b => PySem.W.dataLe false enc a.2 b.2
  have m1 : ((its.zip gs).map f).mergeSort (PySem.W.dataLe false (·.2)) = ((its.zip gs).mergeSort r).map f := (List.map_mergeSort (f := f) (r := r) fun a _ b _ => rfl).symm
  have m2 : gs.mergeSort (PySem.W.dataLe false enc) = ((its.zip gs).mergeSort r).map (·.2) := by
    conv => lhs; rw [← zip_snd al]
    exact (List.map_mergeSort (f := fun z : V × γ => z.2) (r := r) fun a _ b _ => rfl).symm
  rw [m1, m2, List.map_map]
  exact all2_maps fun z hz => (zip_mem al z ((List.mergeSort_perm _ _).mem_iff.mp hz)).1
theorem sort_all {γ : Type} {enc : γ → PyData} {R : V → γ → Prop} {K : PySem.W.Frag} {H : Hp} {a : Addr} {its : List V} {gs : List γ} {Q : VK} (e : H a = some (.lst its)) (al : All2 R its gs) (dp : ∀ v g, R v g → Dp K H v (enc g)) (dep : ∀ g ∈ gs, (enc g).depth ≤ 20)
    (alk : ∀ x y, PySem.W.alike (enc x) (enc y) = true) (hk : PySem.W.Sortable (gs.map enc) ∨ PySem.W.Tup0 (gs.map enc)) (q : ∀ p its' H', Same H H' → H' p = some (.lst its') → All2 R its' (gs.mergeSort (PySem.W.dataLe false enc)) → Q (.ref p) H') : rSortD K [.ref a] H Q := by
  let f : V × γ → V × PyData := fun z => (z.1, enc z.2)
  have e1 : ((its.zip gs).map f).map (·.1) = its := by rw [List.map_map]; exact zip_fst al
  have e2 : ((its.zip gs).map f).map (·.2) = gs.map enc := by
    rw [List.map_map]
    conv => rhs; rw [← zip_snd al]
    rw [List.map_map]; rfl
  refine ⟨a, (its.zip gs).map f, rfl, SqL.of (by rw [e1]; exact e), fun b hb => ?_, ?_, by rw [e2]; exact hk, fun p hp => ?_⟩
  · obtain ⟨z, hz, rfl⟩ := List.mem_map.mp hb
    obtain ⟨r, m⟩ := zip_mem al z hz
    exact ⟨dp _ _ r, dep _ m⟩
  · rw [e2]
    intro d hd d' hd'
    obtain ⟨x, _, rfl⟩ := List.mem_map.mp hd
    obtain ⟨y, _, rfl⟩ := List.mem_map.mp hd'
    exact alk x y
  · exact q p _ _ (same_new hp _) upd_same (srt_pairs al)

theorem sort_fact {γ : Type} {enc : γ → PyData} {R : V → γ → Prop} {K : PySem.W.Frag} {H : Hp} {its : List V} {gs : List γ} (al : All2 R its gs) (dp : ∀ v g, R v g → Dp K H v (enc g)) (dep : ∀ g ∈ gs, (enc g).depth ≤ 20)
    (alk : ∀ x y, PySem.W.alike (enc x) (enc y) = true) (hk : PySem.W.Sortable (gs.map enc)) : ∃ bs : List (V × PyData), bs.map (·.1) = its ∧ (∀ b ∈ bs, Dp K H b.1 b.2 ∧ b.2.depth ≤ 20) ∧ PySem.W.AllAlike (bs.map (·.2)) ∧ PySem.W.Sortable (bs.map (·.2)) ∧ All2 R ((bs.mergeSort (PySem.W.dataLe false (·.2))).map (·.1)) (gs.mergeSort (PySem.W.dataLe false enc)) := by
  let f : V × γ → V × PyData := fun z => (z.1, enc z.2)
  have e1 : ((its.zip gs).map f).map (·.1) = its := by rw [List.map_map]; exact zip_fst al
  have e2 : ((its.zip gs).map f).map (·.2) = gs.map enc := by
    rw [List.map_map]
    conv => rhs; rw [← zip_snd al]
    rw [List.map_map]; rfl
  refine ⟨(its.zip gs).map f, e1, fun b hb => ?_, ?_, by rw [e2]; exact hk, srt_pairs al⟩
  · obtain ⟨z, hz, rfl⟩ := List.mem_map.mp hb
    obtain ⟨r, m⟩ := zip_mem al z hz
    exact ⟨dp _ _ r, dep _ m⟩
  · rw [e2]
    intro d hd d' hd'
    obtain ⟨x, _, rfl⟩ := List.mem_map.mp hd
    obtain ⟨y, _, rfl⟩ := List.mem_map.mp hd'
    exact alk x y
/-! ### lots -/
def bellsL : List Str := [Str.ofString "ding", Str.ofString "dong", Str.ofString "tick"]
def lots7 : List Lot := [[Str.ofString "ding"], [Str.ofString "ding", Str.ofString "dong"], [Str.ofString "ding", Str.ofString "dong", Str.ofString "tick"], [Str.ofString "ding", Str.ofString "tick"], [Str.ofString "dong"], [Str.ofString "dong", Str.ofString "tick"], [Str.ofString "tick"]]
def fndL {α : Type} (bs : List α) : List (List α) := bs.foldl (fun f x => f ++ f.map fun l => l ++ [x]) [[]]
theorem fndL_snoc {α : Type} (bs : List α) (x : α) : fndL (bs ++ [x]) = fndL bs ++ (fndL bs).map fun l => l ++ [x] := by
  unfold fndL
  rw [List.foldl_append]; rfl
theorem fndL_len {α : Type} : ∀ (n : Nat) (bs : List α), bs.length = n → (fndL bs).length = 2 ^ n ∧ ∀ l ∈ fndL bs, l.length ≤ n := by
  intro n
  induction n with
  | zero =>
    intro bs h
    obtain rfl := List.eq_nil_of_length_eq_zero h
    exact ⟨rfl, fun l hl => by have : l = [] := by simpa [fndL] using hl
                               rw [this]; exact Nat.le_refl _⟩
  | succ n ih =>
    intro bs h
    rcases List.eq_nil_or_concat bs with e | ⟨ms, z, e⟩
    · rw [e] at h; cases h
    rw [List.concat_eq_append] at e
    subst e
    rw [List.length_append, List.length_singleton] at h
    obtain ⟨h1, h2⟩ := ih ms (by omega)
    rw [fndL_snoc]
    refine ⟨by rw [List.length_append, List.length_map, h1, Nat.pow_succ]; omega, fun l hl => ?_⟩
    rcases List.mem_append.mp hl with hl | hl
    · have := h2 l hl; omega
    · obtain ⟨l', hl', rfl⟩ := List.mem_map.mp hl
      have := h2 l' hl'
      rw [List.length_append, List.length_singleton]; omega
/-- the lots of few things, and how they are written -/
structure LotK {α : Type} (K : PySem.W.Frag) (cV : α → V) (cD : α → PyData) (bs : List α) (lots : List (List α)) : Prop where
  len : bs.length ≤ 3
  dp : ∀ H x, Dp K H (cV x) (cD x)
  alk : ∀ a b : List α, PySem.W.alike (.list (a.map cD)) (.list (b.map cD)) = true
  dep : ∀ l : List α, (PyData.list (l.map cD)).depth ≤ 20
  srt : (fndL bs).mergeSort (PySem.W.dataLe false fun l => .list (l.map cD)) = [] :: lots
def LsNewK {α : Type} (cV : α → V) (H0 H : Hp) (v : V) (l : List α) : Prop := ∃ b, v = .ref b ∧ H0 b = none ∧ H b = some (.lst (l.map cV))
theorem LsNewK.same {α : Type} {cV : α → V} {H0 H H' : Hp} {v : V} {l : List α} (h : LsNewK cV H0 H v l) (s : Same H H') : LsNewK cV H0 H' v l := let ⟨b, e, n, h⟩ := h; ⟨b, e, n, s _ _ h⟩
abbrev LsNew (H0 H : Hp) (v : V) (l : Lot) : Prop := LsNewK V.str H0 H v l
theorem LsNew.same {H0 H H' : Hp} {v : V} {l : Lot} (h : LsNew H0 H v l) (s : Same H H') : LsNew H0 H' v l := LsNewK.same h s
theorem dep_map {α : Type} {cD : α → PyData} (h : ∀ x, (cD x).depth = 0) (l : List α) : (PyData.list (l.map cD)).depth ≤ 20 := by
  have : ∀ l : List α, PyData.depthAll (l.map cD) = 0 := fun l => by
    induction l with
    | nil => rfl
    | cons x r ih => show max (cD x).depth (PyData.depthAll (r.map cD)) = 0; rw [ih, h]; rfl
  show PyData.depthAll (l.map cD) + 1 ≤ 20
  rw [this]; decide
theorem dp_enc {α : Type} {K : PySem.W.Frag} {H : Hp} {cV : α → V} {cD : α → PyData} (h : ∀ x, Dp K H (cV x) (cD x)) : ∀ l : List α, DpAll K H (l.map cV) (l.map cD)
  | [] => .nil
  | x :: l => .cons (h x) (dp_enc h l)
/-! lots of bells, of ints -/
theorem lotK_bells (K : PySem.W.Frag) : LotK K V.str PyData.str bellsL lots7 where
  len := by decide
  dp := fun H x => .str x
  alk := fun a b => Lo.alike_strs a b
  dep := dep_map fun _ => rfl
  srt := by
    refine (Lo.sort_uniq (k := lsD) (fun _ _ h => Lo.tok_inj h) ?_ ?_).symm
    · decide +kernel
    · decide +kernel
def lotsL {α : Type} : List α → List (List α)
  | [] => []
  | x :: r => [x] :: (lotsL r).map (x :: ·) ++ lotsL r
theorem mem_lotsL {α : Type} : ∀ (bs : List α) (l : List α), l ∈ lotsL bs ↔ l ≠ [] ∧ l.Sublist bs
  | [], l => by
    constructor
    · intro h; cases h
    · rintro ⟨h1, h2⟩; exact (h1 (List.sublist_nil.mp h2)).elim
  | x :: r, l => by
    have ih := mem_lotsL r
    show l ∈ ([x] :: (lotsL r).map (x :: ·)) ++ lotsL r ↔ _
    rw [List.mem_append, List.mem_cons, List.mem_map]
    constructor
    · rintro ((rfl | ⟨k, hk, rfl⟩) | h)
      · exact ⟨by simp, List.Sublist.cons_cons _ (List.nil_sublist _)⟩
      · exact ⟨by simp, List.Sublist.cons_cons _ ((ih k).mp hk).2⟩
      · exact ⟨((ih l).mp h).1, List.Sublist.cons _ ((ih l).mp h).2⟩
    · rintro ⟨h1, h2⟩
      cases h2 with
      | cons _ h => exact .inr ((ih l).mpr ⟨h1, h⟩)
      | @cons_cons k _ _ h =>
        by_cases c : k = []
        · subst c; exact .inl (.inl rfl)
        · exact .inl (.inr ⟨k, (ih k).mpr ⟨c, h⟩, rfl⟩)
def subs3 : List (List Int) := [[], [0], [1], [2], [0, 1], [0, 2], [1, 2], [0, 1, 2]]
theorem alike_ints : ∀ a b : List Int, PySem.W.alikeAll (a.map .int) (b.map .int) = true
  | [], _ => by simp [PySem.W.alikeAll]
  | _ :: _, [] => by simp [PySem.W.alikeAll]
  | x :: xs, y :: ys => by
    show PySem.W.alikeAll (.int x :: xs.map .int) (.int y :: ys.map .int) = true
    rw [PySem.W.alikeAll, alike_ints xs ys]
    simp [PySem.W.alike]
theorem tokA_inj : ∀ {a b : List Int}, PySem.W.keyToksAll (a.map .int) = PySem.W.keyToksAll (b.map .int) → a = b
  | [], [], _ => rfl
  | [], b :: bs, h => by unfold PySem.W.keyToksAll at h; simp at h
  | a :: as, [], h => by unfold PySem.W.keyToksAll at h; simp at h
  | a :: as, b :: bs, h => by
    have h' : (Sum.inl 1 :: ([Sum.inl a] ++ PySem.W.keyToksAll (as.map .int)) : List (Int ⊕ List Nat)) = Sum.inl 1 :: ([Sum.inl b] ++ PySem.W.keyToksAll (bs.map .int)) := h
    simp only [List.cons_append, List.nil_append, List.cons.injEq, true_and, Sum.inl.injEq] at h'
    rw [h'.1, tokA_inj h'.2]
theorem tokI_inj {a b : List Int} (h : PySem.W.keyToks (.list (a.map .int)) = PySem.W.keyToks (.list (b.map .int))) : a = b := tokA_inj h
theorem srt_ints : ∀ bs ∈ subs3, (fndL bs).mergeSort (PySem.W.dataLe false fun l : List Int => .list (l.map PyData.int)) = [] :: lotsL bs := by
  intro bs hb
  refine (Lo.sort_uniq (k := fun l : List Int => PyData.list (l.map PyData.int)) (fun _ _ h => tokI_inj h) ?_ ?_).symm
  · revert bs; decide +kernel
  · revert bs; decide +kernel
theorem lotK_ints (K : PySem.W.Frag) {bs : List Int} (h : bs ∈ subs3) : LotK K V.int PyData.int bs (lotsL bs) where
  len := by revert bs; decide
  dp := fun H x => .int x
  alk := fun a b => alike_ints a b
  dep := dep_map fun _ => rfl
  srt := srt_ints bs h
section
variable {P : Program} {w : World} {K : PySem.W.Frag} {mg : Str → Option Value} {base : Heap}
/-! ### _law_lots -/
abbrev s__law_lots : Stmt := top 39
theorem sc__law_lots : FnScope ["some", "found", "one", "lot"] ["some"] (defScope s__law_lots) := ⟨rfl, rfl, rfl, by decide +kernel, rfl, by decide +kernel, by decide +kernel⟩
def spLots (K : PySem.W.Frag) : Sp := fun vs H Q _ => ∃ (α : Type) (cV : α → V) (cD : α → PyData) (bs : List α) (lots : List (List α)) (a : Addr), vs = [.ref a] ∧ H a = some (.lst (bs.map cV)) ∧ LotK K cV cD bs lots ∧ ∀ q xs H', Same H H' → H q = none → H' q = some (.lst xs) → All2 (LsNewK cV H H') xs lots → Q (.ref q) H'
theorem ok_lots {f : Addr} {fd : FuncData} (F : Fun K "_law_lots" "_law_lots" s__law_lots f fd) (n_sorted : mg "sorted" = none) : FnOk P w K mg base CX0 1 f fd ["some"] (spLots K) := by
  refine F.ok sc__law_lots (fun vs H Q E h => ?_) (fun cdv A outer s H vs Q E hr h => ?_)
  · obtain ⟨_, _, _, _, _, _, rfl, _⟩ := h
    rfl
  · obtain ⟨α, cV, cD, bs, lots, a, rfl, ea, lk, q⟩ := h
    refine ⟨_, (pss_cons (ps_set (i := 1) sc__law_lots.nd rfl (Or.inl rfl) (pe_lst (pa_cons (pe_lst pa_nil) pa_nil)))
    (Evl.pss_cut (ps_for PassesOwn.never rfl (pi_seq (pv 0)) (pg_name (i := 2) sc__law_lots.nd rfl (Or.inr rfl))
      (pss_one (ps_set (i := 1) sc__law_lots.nd rfl (Or.inl rfl) (pe_op op_cat (pv 1) (pe_lc (own := [("lot", 3)]) (g := gName 3) rfl sc__law_lots.nd (pi_seq (pv 1)) (blkOk_by (N := ["some", "found", "one", "lot"]) (sc := defScope s__law_lots) (by decide +kernel)) (fun _ _ _ _ _ => pg_name (i := 3) sc__law_lots.nd rfl (Or.inl rfl)) (fun _ _ _ _ _ => pts_nil) (fun _ _ _ _ _ => pe_op op_cat (pv 3) (pe_lst (pa_cons (pv 2) pa_nil))))))))
    (pss_one (ps_ret (pe_slice (r := rSlL K) sl_list (pe_callB (cr_sortD hr.units) (by rfl) n_sorted (by decide +kernel) (pa_cons (pv 1) pa_nil)) (po_some pe_int) po_none))))), ?_⟩
    refine ⟨by show 0 ≤ sizeLine; decide, fun b hb => ⟨by show 1 ≤ sizeLine; decide, fun f0 hf => ?_⟩⟩
    have s1 := same_new hb (.lst [])
    have eb : upd H b (.lst []) b = some (.lst []) := upd_same
    generalize upd H b (.lst []) = H1 at *
    have s2 := same_new hf (.lst [V.ref b])
    have ef : upd H1 f0 (.lst [V.ref b]) f0 = some (.lst [V.ref b]) := upd_same
    generalize upd H1 f0 (.lst [V.ref b]) = H2 at *
    have s12 := s1.trans s2
    refine ⟨fun σ H' => ∃ f1 o2 xs, σ = [some (.ref a), some (.ref f1), o2, none] ∧ Same H H' ∧ H' f1 = some (.lst xs) ∧ All2 (LsNewK cV H H') xs (fndL bs), ?_, ?_⟩
    · refine ⟨_, rfl, a, _, rfl, SqX.lst (s12 _ _ ea), fun J S W s0 => ?_⟩
      refine for_sq W (fun i σ H' => ∃ f1 o2 xs, σ = [some (.ref a), some (.ref f1), o2, none] ∧ Same H2 H' ∧ H' f1 = some (.lst xs) ∧ All2 (LsNewK cV H H') xs (fndL (bs.take i))) ⟨f0, none, _, rfl, Same.refl _, ef, .cons ⟨b, rfl, hb, s2 _ _ eb⟩ .nil⟩ (fun i σ H' pv => by obtain ⟨_, _, _, _, s, _⟩ := pv; exact W.keep (fun o e => s _ _ e) s0) ?_ ?_
      · rintro i σ H3 y ey ⟨f1, o2, xs, rfl, s3, e1, al⟩
        obtain ⟨x, ex, rfl⟩ : ∃ x, bs[i]? = some x ∧ y = cV x := by
          rw [List.getElem?_map] at ey
          cases c : bs[i]? with
          | none => rw [c] at ey; cases ey
          | some x => rw [c] at ey; exact ⟨x, rfl, (Option.some.inj ey).symm⟩
        have s13 := s12.trans s3
        refine ⟨_, rfl, _, rfl, f1, xs, rfl, SqX.lst e1, fun J2 S2 W2 z0 D hD => ?_⟩
        have li : i < bs.length := (List.getElem?_eq_some_iff.mp ex).1
        have l3 := lk.len
        obtain ⟨l4', l4b⟩ := fndL_len i (bs.take i) (by rw [List.length_take]; omega)
        have l4 : (fndL (bs.take i)).length ≤ 8 := by
          rw [l4']
          exact Nat.pow_le_pow_right (by decide) (show i ≤ 3 by omega)
        have l5 := al.len
        refine lc_mf (ds := fndL (bs.take i)) W2 (fun _ => true) (fun H y l => ∃ b, y = .ref b ∧ b ≠ D ∧ H3 b = none ∧ H b = some (.lst ((l ++ [x]).map cV))) z0 hD al.len (fun j y l H4 ey' el s m => ?_) (fun H4 ys s e al2 => ?_)
        · obtain ⟨l', el', c, rfl, nc, hc⟩ := al.get ey'
          obtain rfl : l' = l := Option.some.inj (el'.symm.trans el)
          refine ⟨rfl, _, rfl, _, rfl, by show 1 ≤ sizeLine; decide, fun u hu => ?_⟩
          have s4 := same_new hu (.lst [cV x])
          have lc : l'.length ≤ 3 := by have := l4b l' (at_mem el); omega
          refine ⟨c, u, _, _, rfl, rfl, s4 _ _ (s _ _ hc), upd_same, by rw [List.length_map, sizeLine_eq]; show l'.length + 1 ≤ _; omega, fun p hp => ?_⟩
          obtain ⟨acc, ea2, _⟩ := m.acc
          have n4 : H4 p = none := none_back s4 hp
          refine mfk_yes m hD (fun _ _ _ _ k n => let ⟨b, e, n, h0, h⟩ := n; ⟨b, e, n, h0, k _ _ h n⟩) el (by omega) (s4.trans (same_new hp _)) rfl ⟨p, rfl, (ne_of_none ea2 n4).symm, none_back s n4, ?_⟩
          rw [upd_same, List.map_append]; rfl
        · rw [Rd.filter_all] at al2
          have l6 := al2.len
          refine ⟨f1, D, _, _, rfl, rfl, s _ _ e1, e, by rw [sizeLine_eq]; omega, fun p hp => ?_⟩
          have s5 := same_new hp (.lst (xs ++ ys))
          refine ⟨p, _, xs ++ ys, rfl, (s3.trans s).trans s5, upd_same, ?_⟩
          rw [List.take_add_one, ex, show (some x : Option α).toList = [x] from rfl, fndL_snoc]
          exact (al.imp fun _ _ h => (h.same s).same s5).app (all2_mapR (al2.imp fun _ _ h => let ⟨b, e, _, h0, hh⟩ := h; ⟨b, e, none_back s13 h0, s5 _ _ hh⟩))
      · rintro σ H3 ⟨f1, o2, xs, rfl, s3, e1, al⟩
        rw [List.length_map, List.take_of_length_le (Nat.le_refl _)] at al
        exact ⟨f1, o2, xs, rfl, s12.trans s3, e1, al⟩
    rintro σ H3 ⟨f1, o2, xs, rfl, s3, e1, al⟩
    obtain ⟨bb, b1, b2, b3, b4, b5⟩ := sort_fact (K := K) (enc := fun l : List α => PyData.list (l.map cD)) al (fun v g r => by
      obtain ⟨b, e, _, h⟩ := r
      rw [e]
      exact .lst (SqL.of h) (dp_enc (lk.dp _) g)) (fun g _ => lk.dep g) (fun x y => lk.alk x y) (.inr fun d hd => by
        obtain ⟨l, _, rfl⟩ := List.mem_map.mp hd
        exact ⟨fun z => (nomatch z), fun xs z => (nomatch z)⟩)
    rw [lk.srt] at b5
    refine ⟨_, rfl, f1, bb, rfl, SqL.of (by rw [b1]; exact e1), b2, b3, .inl b4, fun p hp => ?_⟩
    have s4 := same_new hp (.lst ((bb.mergeSort (PySem.W.dataLe false (·.2))).map (·.1)))
    refine ⟨1, rfl, p, _, rfl, SqL.of upd_same, fun p2 hp2 => ?_⟩
    have ep : upd H3 p (.lst ((bb.mergeSort (PySem.W.dataLe false (·.2))).map (·.1))) p = some (.lst ((bb.mergeSort (PySem.W.dataLe false (·.2))).map (·.1))) := upd_same
    generalize upd H3 p (.lst ((bb.mergeSort (PySem.W.dataLe false (·.2))).map (·.1))) = H4 at *
    generalize (bb.mergeSort (PySem.W.dataLe false (·.2))).map (·.1) = L at *
    cases b5 with
    | @cons v0 _ vs _ h0 hr =>
      have s5 := same_new hp2 (.lst (cutV (v0 :: vs) (some 1) none))
      have e5 : upd H4 p2 (.lst (cutV (v0 :: vs) (some 1) none)) p2 = some (.lst vs) := by rw [upd_same, cut1]
      have s05 := (s3.trans s4).trans s5
      exact q p2 vs _ s05 (none_back (s3.trans s4) hp2) e5 (hr.imp fun _ _ h => (h.same s4).same s5)
end
end R0

namespace R0
open PySem PySem.Spec PyProof.Rows L2 Hb St Sq Ow En Zp RZ Rd Xb Da Wa
/-- a list of typed data -/
def ListAt {α : Type} (K : PySem.W.Frag) (H : Hp) (q : Addr) (f : α → PyData) (l : List α) : Prop := ∃ xs, H q = some (.lst xs) ∧ All2 (fun v a => Dp K H v (f a)) xs l
theorem ListAt.same {α : Type} {K : PySem.W.Frag} {H H' : Hp} {q : Addr} {f : α → PyData} {l : List α} (h : ListAt K H q f l) (s : Same H H') : ListAt K H' q f l := let ⟨xs, e, a⟩ := h; ⟨xs, s _ _ e, a.imp fun _ _ d => dp_same s d⟩
theorem ListAt.dp {α : Type} {K : PySem.W.Frag} {H : Hp} {q : Addr} {f : α → PyData} {l : List α} (h : ListAt K H q f l) : Dp K H (.ref q) (.list (l.map f)) := let ⟨xs, e, a⟩ := h; .lst (SqL.of e) (dpa_of (all2_mapR a))
theorem deal_ne {H : Hp} {p l q : Addr} (d : DealAt H p l) (h : H q = none) : q ≠ p ∧ q ≠ l := by
  obtain ⟨ns, b, h1, h2, _⟩ := d
  exact ⟨fun z => (by rw [z, h1] at h; cases h), fun z => (by rw [z, h2] at h; cases h)⟩
theorem deal_upd {H : Hp} {p l q : Addr} {o : HO} (d : DealAt H p l) (n1 : q ≠ p) (n2 : q ≠ l) : DealAt (upd H q o) p l := by
  obtain ⟨ns, b, h1, h2, h3⟩ := d
  exact ⟨ns, b, by rw [upd_ne n1.symm]; exact h1, by rw [upd_ne n2.symm]; exact h2, h3⟩
theorem all2_memL {α β : Type} {R : α → β → Prop} {as : List α} {bs : List β} (h : All2 R as bs) {x : α} (m : x ∈ as) : ∃ y, y ∈ bs ∧ R x y := by
  induction h with
  | nil => cases m
  | cons r _ ih =>
    rcases List.mem_cons.mp m with rfl | m
    · exact ⟨_, List.mem_cons_self .., r⟩
    · obtain ⟨y, hy, e⟩ := ih m
      exact ⟨y, List.mem_cons_of_mem _ hy, e⟩
def stepsR (rs : List Rm) : List Stp := rs.flatMap fun r => (List.range r.2.length).map fun i : Nat => (r.1, ((i : Nat) : Int) + 1)
theorem stepsR_app (rs : List Rm) (a : Rm) : stepsR (rs ++ [a]) = stepsR rs ++ (List.range a.2.length).map fun i : Nat => (a.1, ((i : Nat) : Int) + 1) := by
  unfold stepsR
  rw [List.flatMap_append, List.flatMap_cons, List.flatMap_nil, List.append_nil]
theorem stepsR_len (rs : List Rm) (h : ∀ a ∈ rs, a.2.length ≤ 10) (i : Nat) : (stepsR (rs.take i)).length ≤ 10 * rs.length := by
  have : ∀ l : List Rm, (∀ a ∈ l, a.2.length ≤ 10) → (stepsR l).length ≤ 10 * l.length := by
    intro l
    induction l with
    | nil => intro _; exact Nat.le_refl _
    | cons a l ih =>
      intro h
      have e : stepsR (a :: l) = ((List.range a.2.length).map fun i : Nat => (a.1, ((i : Nat) : Int) + 1)) ++ stepsR l := rfl
      have := h a (List.mem_cons_self ..)
      have := ih fun x hx => h x (List.mem_cons_of_mem _ hx)
      rw [e, List.length_append, List.length_map, List.length_range, List.length_cons]
      omega
  have h1 := this (rs.take i) fun a ha => h a (List.mem_of_mem_take ha)
  have h2 := List.length_take_le' i rs
  omega
section
variable {P : Program} {w : World} {K : PySem.W.Frag} {mg : Str → Option Value} {base : Heap}
/-! ### _law_tale -/
abbrev s__law_tale : Stmt := top 40
theorem sc__law_tale : FnScope ["deal", "many", "lots", "turn"] ["deal", "many"] (defScope s__law_tale) := ⟨rfl, rfl, rfl, by decide +kernel, rfl, by decide +kernel, by decide +kernel⟩
def spTale (K : PySem.W.Frag) : Sp := fun vs H Q _ => ∃ (p l : Addr) (many : Int), vs = [.ref p, .int many] ∧ DealAt H p l ∧ 0 ≤ many ∧ many ≤ 3 ∧ ∀ v H' (t : Tale), Kept2 p l H H' → DealAt H' p l → Dp K H' v (tD t) → (t.length : Int) = many → (∀ a ∈ t, a ∈ lots7) → Q v H'
theorem ok_ltale {f : Addr} {fd : FuncData} (F : Fun K "_law_tale" "_law_tale" s__law_tale f fd) (C__law_lots : Cl P w K mg base "_law_lots" ["some"] [] 1 (spLots K)) (C__law_pick : Cl P w K mg base "_law_pick" ["deal", "some"] [] 2 (spPick K)) (n_range : mg "range" = none) (n_tuple : mg "tuple" = none) : FnOk P w K mg base CX0 3 f fd ["deal", "many"] (spTale K) := by
  refine F.ok sc__law_tale (fun vs H Q E h => ?_) (fun cdv A outer s H vs Q E hr h => ?_)
  · obtain ⟨_, _, _, rfl, _⟩ := h
    rfl
  · obtain ⟨p, l, many, rfl, dl, m0, m3, q⟩ := h
    refine ⟨_, (pss_cons (ps_set (i := 2) sc__law_tale.nd rfl (Or.inr rfl) (pe_use C__law_lots (hr.mono (by decide)) rfl (pa_cons (pe_lst (pa_cons pe_str (pa_cons pe_str (pa_cons pe_str pa_nil)))) pa_nil)))
    (pss_one (ps_ret (pe_callTy call_tuple_of (by rfl) n_tuple (by decide +kernel) (pa_cons (pe_lc (own := [("turn", 3)]) (g := gName 3) rfl sc__law_tale.nd (pi_range1 (by rfl) n_range (pa_cons (pv 1) pa_nil)) (blkOk_by (N := ["deal", "many", "lots", "turn"]) (sc := defScope s__law_tale) (by decide +kernel)) (fun _ _ _ _ _ => pg_name (i := 3) sc__law_tale.nd rfl (Or.inl rfl)) (fun _ _ _ _ _ => pts_nil) (fun _ _ _ _ _ => pe_callTy (T := "tuple") (r := rTupE K) call_tupE (by rfl) n_tuple (by decide +kernel) (pa_cons (pe_use C__law_pick (hr.mono (by decide)) rfl (pa_cons (pv 0) (pa_cons (pv 2) pa_nil))) pa_nil))) pa_nil))))), ?_⟩
    refine ⟨by show 3 ≤ sizeLine; decide, fun b hb => ?_⟩
    have s1 := same_new hb (.lst (bellsL.map V.str))
    have eb : upd H b (.lst (bellsL.map V.str)) b = some (.lst (bellsL.map V.str)) := upd_same
    generalize e0 : upd H b (.lst (bellsL.map V.str)) = H1 at *
    rw [show upd H b (.lst [V.str (Str.ofString "ding"), .str (Str.ofString "dong"), .str (Str.ofString "tick")]) = H1 from e0]
    refine ⟨Str, V.str, PyData.str, bellsL, lots7, b, rfl, eb, lotK_bells K, fun q0 xs H2 s2 hq0 eq0 al => ?_⟩
    have d1 := dl.same s1
    have d2 := d1.same s2
    have nq := deal_ne d1 hq0
    refine ⟨_, rfl, many, rfl, by omega, by omega, fun D hD => ?_⟩
    have nD := deal_ne d2 hD
    have nqD : q0 ≠ D := ne_of_none eq0 hD
    refine lc_range (lo := 0) (n := many.toNat) (fun i H' => Kept2 p l H2 H' ∧ DealAt H' p l ∧ ∃ (ys : List V) (t : Tale), H' D = some (.lst ys) ∧ All2 (fun v a => Dp K H' v (lD a)) ys t ∧ t.length = i ∧ ∀ a ∈ t, a ∈ lots7) ?_ ?_ ?_
    · exact ⟨Kept2.same (same_new hD _), deal_upd d2 nD.1 nD.2, [], [], upd_same, .nil, rfl, fun _ h => nomatch h⟩
    · rintro i H3 hi ⟨k3, d3, ys, t, eD, at3, lt, mt⟩
      refine ⟨rfl, _, rfl, _, rfl, p, l, q0, xs, rfl, d3, fun H' k => SqX.lst (k _ _ (k3 _ _ eq0 nq.1 nq.2) nq.1 nq.2), ⟨by rw [al.len]; decide, by rw [al.len]; decide⟩, fun x H4 hx k4 d4 => ?_⟩
      obtain ⟨a, ha, c, rfl, nc, hc⟩ := all2_memL al hx
      obtain ⟨n1, n2⟩ := deal_ne d1 nc
      have hc4 := k4 _ _ (k3 _ _ hc n1 n2) n1 n2
      have eD4 := k4 _ _ eD nD.1 nD.2
      refine ⟨c, _, rfl, .inl ⟨SqL.of hc4, fun u hu => ?_⟩⟩
      have s5 := same_new hu (.tup (a.map V.str))
      have eD5 := s5 _ _ eD4
      have fx : Fix H3 (upd (upd H4 u (.tup (a.map V.str))) D (.lst (ys ++ [V.ref u]))) := ((k4.fix d3).trans (Fix.of s5)).trans (Fix.lst eD5)
      have nu : u ≠ D := (ne_of_none eD4 hu).symm
      refine ⟨ys, eD5, by rw [at3.len, lt, sizeLine_eq]; omega, fun b o e h1 h2 => ?_, deal_upd (d4.same s5) nD.1 nD.2, ys ++ [V.ref u], t ++ [a], upd_same, (at3.imp fun _ _ h => dp_fix fx (noL_lD _) h).app (.cons (.tup (SqT.of (by rw [upd_ne nu]; exact upd_same)) (dp_strs a)) .nil), by rw [List.length_append, lt]; rfl, fun z hz => ?_⟩
      · rw [upd_ne (ne_of_none e hD)]
        exact s5 _ _ (k4 _ _ (k3 _ _ e h1 h2) h1 h2)
      · rcases List.mem_append.mp hz with hz | hz
        · exact mt z hz
        · obtain rfl := List.mem_singleton.mp hz
          exact ha
    · rintro H3 ⟨k3, d3, ys, t, eD, at3, lt, mt⟩
      refine ⟨D, ys, rfl, .inl ⟨SqL.of eD, fun u hu => ?_⟩⟩
      have s5 := same_new hu (.tup ys)
      exact q (.ref u) _ t (((Kept2.same (s1.trans s2)).trans k3).trans (Kept2.same s5)) (d3.same s5) (.tup (SqT.of upd_same) (dpa_of (all2_mapR (at3.imp fun _ _ h => dp_fix (Fix.of s5) (noL_lD _) h)))) (by rw [lt]; omega) mt
/-! ### _law_steps -/
abbrev s__law_steps : Stmt := top 41
theorem sc__law_steps : FnScope ["rooms", "found", "name", "tale", "at"] ["rooms"] (defScope s__law_steps) := ⟨rfl, rfl, rfl, by decide +kernel, rfl, by decide +kernel, by decide +kernel⟩
def spSteps (K : PySem.W.Frag) : Sp := fun vs H Q _ => ∃ (r : Addr) (rs : List Rm), vs = [.ref r] ∧ ListAt K H r rmD rs ∧ rs.length ≤ 10 ∧ (∀ a ∈ rs, a.2.length ≤ 10) ∧ ∀ q H', Same H H' → H q = none → ListAt K H' q stD (stepsR rs) → Q (.ref q) H'
theorem ok_lsteps {f : Addr} {fd : FuncData} (F : Fun K "_law_steps" "_law_steps" s__law_steps f fd) (n_len : mg "len" = none) (n_range : mg "range" = none) : FnOk P w K mg base CX0 1 f fd ["rooms"] (spSteps K) := by
  refine F.ok sc__law_steps (fun vs H Q E h => ?_) (fun cdv A outer s H vs Q E hr h => ?_)
  · obtain ⟨_, _, rfl, _⟩ := h
    rfl
  · obtain ⟨r, rs, rfl, ⟨xs, er, al⟩, l1, l2, q⟩ := h
    refine ⟨_, (pss_cons (ps_set (i := 1) sc__law_steps.nd rfl (Or.inl rfl) (pe_lst pa_nil))
    (Evl.pss_cut (ps_for PassesOwn.never rfl (pi_seq (pv 0)) (pg_tup rfl (pgs_cons (pg_name (i := 2) sc__law_steps.nd rfl (Or.inr rfl)) (pgs_cons (pg_name (i := 3) sc__law_steps.nd rfl (Or.inl rfl)) pgs_nil)))
      (pss_one (ps_set (i := 1) sc__law_steps.nd rfl (Or.inl rfl) (pe_op op_cat (pv 1) (pe_lc (own := [("at", 4)]) (g := gName 4) rfl sc__law_steps.nd (pi_range1 (by rfl) n_range (pa_cons (pe_callB call_len_seq (by rfl) n_len PySem.boot_len (pa_cons (pv 3) pa_nil)) pa_nil)) (blkOk_by (N := ["rooms", "found", "name", "tale", "at"]) (sc := defScope s__law_steps) (by decide +kernel)) (fun _ _ _ _ _ => pg_name (i := 4) sc__law_steps.nd rfl (Or.inl rfl)) (fun _ _ _ _ _ => pts_nil) (fun _ _ _ _ _ => pe_tup (pa_cons (pv 2) (pa_cons (pe_op op_add (pv 4) pe_int) pa_nil))))))))
    (pss_one (ps_ret (pv 1))))), ?_⟩
    refine ⟨by show 0 ≤ sizeLine; decide, fun f0 hf => ?_⟩
    have s1 := same_new hf (.lst [])
    have ef : upd H f0 (.lst []) f0 = some (.lst []) := upd_same
    generalize upd H f0 (.lst []) = H1 at *
    refine ⟨fun σ H' => (∃ f1 o2 o3, σ = [some (.ref r), some (.ref f1), o2, o3, none] ∧ H f1 = none ∧ ListAt K H' f1 stD (stepsR rs)) ∧ Same H H', ?_, ?_⟩
    · refine ⟨_, rfl, r, xs, rfl, SqX.lst (s1 _ _ er), fun J S W s0 => ?_⟩
      refine for_sq W (fun i σ H' => (∃ f1 o2 o3, σ = [some (.ref r), some (.ref f1), o2, o3, none] ∧ H f1 = none ∧ ListAt K H' f1 stD (stepsR (rs.take i))) ∧ Same H1 H') ⟨⟨f0, none, none, rfl, hf, [], ef, .nil⟩, Same.refl _⟩ (fun i σ H' pv => W.keep (fun o e => pv.2 _ _ e) s0) ?_ ?_
      · rintro i σ H2 y ey ⟨⟨f1, o2, o3, rfl, hf1, zs, e1, al1⟩, s2⟩
        obtain ⟨a, ea, da⟩ := al.get ey
        obtain ⟨b', vt, rfl, hb, ht⟩ := dp_rm (dp_same (s1.trans s2) da)
        obtain ⟨tb, ts, rfl, htb, tl⟩ := dp_seq ht
        refine ⟨b', _, rfl, hb, rfl, _, _, rfl, _, _, rfl, rfl, ?_⟩
        refine ⟨_, rfl, _, rfl, tb, ts, rfl, .inr htb, ?_⟩
        have lt2 : a.2.length ≤ 10 := l2 a (at_mem ea)
        refine ⟨_, rfl, by rw [tl.len]; omega, by rw [tl.len]; omega, fun D hD => ?_⟩
        have sD := same_new hD (.lst [])
        refine lc_range (lo := 0) (n := ((ts.length : Int)).toNat) (fun i H' => Same H2 H' ∧ ListAt K H' D stD ((List.range i).map fun i : Nat => (a.1, ((i : Nat) : Int) + 1))) ⟨sD, [], upd_same, .nil⟩ ?_ ?_
        · rintro j H3 hj ⟨s3, ys, eD, aD⟩
          have hj : j < ts.length := hj
          have ly := aD.len
          rw [List.length_map, List.length_range] at ly
          refine ⟨rfl, _, rfl, _, rfl, _, _, rfl, rfl, by show 2 ≤ sizeLine; decide, fun u hu => ?_⟩
          have s5 := same_new hu (.tup [V.str a.1, .int (0 + (j : Int) + 1)])
          have eD5 := s5 _ _ eD
          have fx : Fix H3 (upd (upd H3 u (.tup [V.str a.1, .int (0 + (j : Int) + 1)])) D (.lst (ys ++ [V.ref u]))) := (Fix.of s5).trans (Fix.lst eD5)
          have nu : u ≠ D := (ne_of_none eD hu).symm
          refine ⟨ys, eD5, by rw [ly, sizeLine_eq]; have := tl.len; omega, fun b o e => ?_, ys ++ [V.ref u], upd_same, ?_⟩
          · rw [upd_ne (ne_of_none e hD)]
            exact s5 _ _ (s3 _ _ e)
          · rw [List.range_succ, List.map_append]
            refine (aD.imp fun _ _ h => dp_fix fx (noL_st _) h).app (.cons (.tup (SqT.of (by rw [upd_ne nu]; exact upd_same)) ?_) .nil)
            rw [Int.zero_add]
            exact .cons (.str _) (.cons (.int _) .nil)
        · rintro H3 ⟨s3, ys, eD, aD⟩
          have aD' : All2 (fun v a => Dp K H3 v (stD a)) ys ((List.range a.2.length).map fun i : Nat => (a.1, ((i : Nat) : Int) + 1)) := by
            rw [← tl.len]; exact aD
          have lz := al1.len
          have ly := aD'.len
          have b1 := stepsR_len rs l2 i
          have b2 := List.length_take_le i rs
          rw [List.length_map, List.length_range] at ly
          refine ⟨f1, D, zs, ys, rfl, rfl, s3 _ _ e1, eD, by rw [sizeLine_eq]; omega, fun u hu => ?_⟩
          have s5 := same_new hu (.lst (zs ++ ys))
          refine ⟨⟨u, _, _, rfl, none_back (((s1.trans s2).trans s3)) hu, zs ++ ys, upd_same, ?_⟩, (s2.trans s3).trans s5⟩
          rw [List.take_add_one, ea]
          show All2 _ (zs ++ ys) (stepsR (rs.take i ++ [a]))
          rw [stepsR_app]
          exact (al1.imp fun _ _ h => dp_same (s3.trans s5) h).app (aD'.imp fun _ _ h => dp_same s5 h)
      · rintro σ H2 ⟨⟨f1, o2, o3, rfl, hf1, zs, e1, al1⟩, s2⟩
        rw [al.len, List.take_of_length_le (Nat.le_refl _)] at al1
        exact ⟨⟨f1, o2, o3, rfl, hf1, zs, e1, al1⟩, s1.trans s2⟩
    rintro σ H2 ⟨⟨f1, o2, o3, rfl, hf1, lt⟩, s2⟩
    exact ⟨_, rfl, q f1 H2 s2 hf1 lt⟩
end
end R0

namespace R0
open PySem PySem.Spec PyProof.Rows L2 Hb St Sq Ow En Zp RZ Rd Xb Da Wa
theorem rd_neD {α : Type} [DecidableEq α] {f : α → PyData} {K : PySem.W.Frag} {H : Hp} {Q : VK} {a t : Addr} {xs : List V} {l : List α} (hl : H a = some (.lst xs)) (al : All2 (fun v b => Dp K H v (f b)) xs l) (hf : ∀ x y, PyData.eqv (f x) (f y) = decide (x = y)) (sh : SeqAt.shaped (.list (l.map f)) = true) (ht : H t = some (.lst [])) (q : Q (.bl (!decide (l = []))) H) : rNeD K (.ref a) (.ref t) H Q :=
  ⟨_, _, .lst (SqL.of hl) (dpa_of (all2_mapR al)), .lst (SqL.of ht) .nil, sh, (sh_lst (n := 0) (f := PyData.int) (l := []) fun _ h => nomatch h).ok (by decide), by rw [show PyData.eqv (.list (l.map f)) (.list []) = decide (l = []) from eqvAll_map hf l []]; exact q⟩
theorem nm_step {rs : List Rm} (h : ∀ a ∈ rs, IsNm a.1) : ∀ s ∈ stepsR rs, IsNm s.1 := by
  intro s hs
  obtain ⟨a, ha, hs⟩ := List.mem_flatMap.mp hs
  obtain ⟨i, _, rfl⟩ := List.mem_map.mp hs
  exact h a ha
theorem iteN {c A B : Prop} [Decidable c] (h1 : ¬ c → A) (h2 : c → B) : if (!decide c) = true then A else B := by
  by_cases h : c
  · rw [decide_eq_true h]; exact h2 h
  · rw [decide_eq_false h]; exact h1 h
theorem and_end {c : Prop} [Decidable c] {te : TE} {σ : L2.St} {H7 : Hp} {Q : VK} {I : Hp → Prop} (i : I H7) (dr : ∀ Q' : VK, (∀ z H8, I H8 → Q' (.bl z) H8) → te σ H7 Q') (fin : ∀ z H8, I H8 → Q (.bl z) H8) : if decide c = true then te σ H7 Q else Q (.bl false) H7 :=
  iteD (fun _ => dr Q fin) fun _ => fin false H7 i
section
variable {P : Program} {w : World} {K : PySem.W.Frag} {mg : Str → Option Value} {base : Heap}
/-! ### _law_joins -/
abbrev s__law_joins : Stmt := top 42
theorem sc__law_joins : FnScope ["deal", "rooms", "many", "steps", "found", "turn", "one", "others", "other", "is_turned", "step"] ["deal", "rooms", "many"] (defScope s__law_joins) := ⟨rfl, rfl, rfl, by decide +kernel, rfl, by decide +kernel, by decide +kernel⟩
def spJoins (K : PySem.W.Frag) : Sp := fun vs H Q _ => ∃ (p l r : Addr) (rs : List Rm) (many : Int), vs = [.ref p, .ref r, .int many] ∧ DealAt H p l ∧ r ≠ p ∧ r ≠ l ∧ ListAt K H r rmD rs ∧ (1 ≤ rs.length ∧ rs.length ≤ 3) ∧ (∀ a ∈ rs, a.2.length ≤ 3) ∧ (∀ a ∈ rs, IsNm a.1) ∧ stepsR rs ≠ [] ∧ 0 ≤ many ∧ many ≤ 3 ∧ ∀ q H' (js : List Jn), Kept2 p l H H' → DealAt H' p l → H q = none → ListAt K H' q jnD js → (js.length : Int) ≤ many → (∀ j ∈ js, j.1 ∈ stepsR rs ∧ j.2 ∈ stepsR rs ∧ j.1.1 ≠ j.2.1) → Q (.ref q) H'
theorem ok_ljoins {f : Addr} {fd : FuncData} (F : Fun K "_law_joins" "_law_joins" s__law_joins f fd) (C__law_draw : Cl P w K mg base "_law_draw" ["deal", "bound"] [] 1 spDraw) (C__law_pick : Cl P w K mg base "_law_pick" ["deal", "some"] [] 2 (spPick K)) (C__law_steps : Cl P w K mg base "_law_steps" ["rooms"] [] 1 (spSteps K)) (n_range : mg "range" = none) : FnOk P w K mg base CX0 3 f fd ["deal", "rooms", "many"] (spJoins K) := by
  refine F.ok sc__law_joins (fun vs H Q E h => ?_) (fun cdv A outer s H vs Q E hr h => ?_)
  · obtain ⟨_, _, _, _, _, rfl, _⟩ := h
    rfl
  · obtain ⟨p, l, r, rs, many, rfl, dl, n1, n2, lr, ⟨k1, k3⟩, kt, kn, sne, m0, m3, q⟩ := h
    refine ⟨_, (pss_cons (ps_par (i := 3) (j := 4) (by rfl) sc__law_joins.nd rfl rfl (by decide) rfl rfl (pa_cons (pe_use C__law_steps (hr.mono (by decide)) rfl (pa_cons (pv 1) pa_nil)) (pa_cons (pe_lst pa_nil) pa_nil)) (by rfl))
    (Evl.pss_cut (ps_for PassesOwn.never rfl (pi_range1 (by rfl) n_range (pa_cons (pv 2) pa_nil)) (pg_name (i := 5) sc__law_joins.nd rfl (Or.inl rfl))
      (pss_cons (ps_set (i := 6) sc__law_joins.nd rfl (Or.inr rfl) (pe_use C__law_pick (hr.mono (by decide)) rfl (pa_cons (pv 0) (pa_cons (pv 3) pa_nil))))
    (Evl.pss_cut (ps_setLc (i := 7) (own := [("step", 10)]) (g := gName 10) (by rfl) sc__law_joins.nd rfl rfl (sw_true rfl rfl rfl (by decide +kernel)) (pi_seq (pv 3)) (blkOk_by (N := ["deal", "rooms", "many", "steps", "found", "turn", "one", "others", "other", "is_turned", "step"]) (sc := defScope s__law_joins) (by decide +kernel)) (fun _ _ _ _ _ => pg_name (i := 10) sc__law_joins.nd rfl (Or.inl rfl)) (fun _ _ _ _ _ => pts_one (pt_cmpR op_ne (pe_ix (r := rIxT K) ix_tup (pv 10) pe_int (fun _ _ => rfl)) (pe_ix (r := rIxT K) ix_tup (pv 6) pe_int (fun _ _ => rfl)) (nomark _))) (fun _ _ _ _ _ => pv 10))
    (pss_one (ps_if (pt_cmpR (op_neD hr.units) (pv 7) (pe_lst pa_nil) (nomark _)) (pss_cons (ps_set (i := 8) sc__law_joins.nd rfl (Or.inl rfl) (pe_use C__law_pick (hr.mono (by decide)) rfl (pa_cons (pv 0) (pa_cons (pv 7) pa_nil))))
    (pss_cons (ps_set (i := 9) sc__law_joins.nd rfl (Or.inl rfl) (pe_and (pe_cmpR op_gt (pe_ix ix_tup (pv 6) pe_int (fun _ _ => rfl)) (pe_ix ix_tup (pv 8) pe_int (fun _ _ => rfl)) (nomark _)) (pe_one (pe_cmpR op_gt (pe_use C__law_draw (hr.mono (by decide)) rfl (pa_cons (pv 0) (pa_cons pe_int pa_nil))) pe_int (nomark _)))))
    (pss_one (ps_expr (pe_bm PySem.F.plainAttrs_list PySem.F.slot_list_append PySem.F.type_list_append mt_append (pv 4) (pa_cons (pe_ifExp (pt_val (pv 9)) (pe_tup (pa_cons (pv 8) (pa_cons (pv 6) pa_nil))) (pe_tup (pa_cons (pv 6) (pa_cons (pv 8) pa_nil)))) pa_nil)))))) pss_nil)))))
    (pss_one (ps_ret (pv 4))))), ?_⟩
    have sl := stepsR_len rs (fun a ha => Nat.le_trans (kt a ha) (by decide)) rs.length
    rw [List.take_length] at sl
    refine ⟨_, rfl, r, rs, rfl, lr, by omega, fun a ha => Nat.le_trans (kt a ha) (by decide), fun sp H1 s1 hsp lsp => ⟨by show 0 ≤ sizeLine; decide, fun fp hfp => ?_⟩⟩
    have s2 := same_new hfp (.lst [])
    have ef : upd H1 fp (.lst []) fp = some (.lst []) := upd_same
    generalize upd H1 fp (.lst []) = H2 at *
    have s12 := s1.trans s2
    have hfp0 := none_back s1 hfp
    have np := deal_ne dl hsp
    have nf := deal_ne dl hfp0
    have nsf : sp ≠ fp := by obtain ⟨_, e, _⟩ := lsp; exact ne_of_none e hfp
    have nmS := nm_step kn
    refine ⟨_, _, rfl, fun σ H' => ∃ o5 o6 o7 o8 o9 js, σ = [some (.ref p), some (.ref r), some (.int many), some (.ref sp), some (.ref fp), o5, o6, o7, o8, o9, none] ∧ Kept2 p l H H' ∧ DealAt H' p l ∧ ListAt K H' fp jnD js ∧ (js.length : Int) ≤ many ∧ (∀ j ∈ js, j.1 ∈ stepsR rs ∧ j.2 ∈ stepsR rs ∧ j.1.1 ≠ j.2.1), ?_, ?_⟩
    · refine ⟨_, rfl, many, rfl, by omega, by omega, ?_⟩
      refine for_range (n := many.toNat) (fun i σ H' => ∃ o5 o6 o7 o8 o9 js, σ = [some (.ref p), some (.ref r), some (.int many), some (.ref sp), some (.ref fp), o5, o6, o7, o8, o9, none] ∧ Kept2 p l H H' ∧ DealAt H' p l ∧ ListAt K H' sp stD (stepsR rs) ∧ ListAt K H' fp jnD js ∧ js.length ≤ i ∧ (∀ j ∈ js, j.1 ∈ stepsR rs ∧ j.2 ∈ stepsR rs ∧ j.1.1 ≠ j.2.1)) ⟨none, none, none, none, none, [], rfl, Kept2.same s12, dl.same s12, lsp.same s2, ⟨[], ef, .nil⟩, Nat.le_refl _, fun _ h => nomatch h⟩ ?_ ?_
      · rintro i σ H3 hi ⟨o5, o6, o7, o8, o9, js, rfl, k3, d3, ⟨ss, es, als⟩, ⟨ys, ey, aly⟩, lj, gj⟩
        have l5 := als.len
        have lnn : 1 ≤ (stepsR rs).length := by
          cases h : stepsR rs with
          | nil => exact absurd h sne
          | cons _ _ => simp
        refine ⟨_, rfl, _, rfl, p, l, sp, ss, rfl, d3, fun H' k => SqX.lst (k _ _ es np.1 np.2), ⟨by omega, by omega⟩, fun x H4 hx k4 d4 => ?_⟩
        obtain ⟨s, hs, ds⟩ := all2_memL als hx
        have ds4 := dp_fix (k4.fix d3) (noL_st s) ds
        obtain ⟨b, rfl, hb⟩ := dp_st ds4
        have es4 := k4 _ _ es np.1 np.2
        let oth := (stepsR rs).filter fun t => decide (t.1 ≠ s.1)
        refine ⟨fun σ H' => ∃ D zs, σ = [some (.ref p), some (.ref r), some (.int many), some (.ref sp), some (.ref fp), some (.int (0 + (i : Nat))), some (.ref b), some (.ref D), o8, o9, none] ∧ H4 D = none ∧ Same H4 H' ∧ H' D = some (.lst zs) ∧ All2 (fun v a => Dp K H' v (stD a)) zs oth, ⟨_, rfl, sp, ss, rfl, SqX.lst es4, fun J S W s0 D hD => ?_⟩, ?_⟩
        refine lc_mf (ds := stepsR rs) W (fun t => decide (t.1 ≠ s.1)) (fun H y t => Dp K H y (stD t)) s0 hD l5 (fun j y t H5 ey' et s5 m => ?_) (fun H5 zs s5 e5 al5 => ?_)
        · obtain ⟨t', et', dt⟩ := als.get ey'
          obtain rfl := Option.some.inj (et'.symm.trans et)
          have dt5 := dp_same s5 (dp_fix (k4.fix d3) (noL_st t') dt)
          obtain ⟨c, rfl, hc⟩ := dp_st dt5
          refine ⟨rfl, _, rfl, c, _, 0, _, rfl, rfl, hc, at0, _, rfl, b, _, 0, _, rfl, rfl, tupFix (Fix.of s5) hb, at0, rfl, _, rfl, ?_⟩
          rw [neStr]
          have lst := stepsR_len rs (fun a ha => Nat.le_trans (kt a ha) (by decide)) rs.length
          refine iteD (fun c => ⟨_, rfl, mf_yes m hD (fun _ _ _ _ f h => dp_fix f (noL_st _) h) et (by omega) (Same.refl _) (decide_eq_true c) dt5⟩) fun c => mf_no m (fun _ _ _ _ f h => dp_fix f (noL_st _) h) et (Same.refl _) (decide_eq_false c)
        · exact ⟨D, zs, rfl, hD, s5, e5, al5⟩
        rintro σ H5 ⟨D, zs, rfl, hD, s5, e5, al5⟩
        refine ⟨_, rfl, by show 0 ≤ sizeLine; decide, fun t ht => ?_⟩
        have s6 := same_new ht (.lst [])
        have et : upd H5 t (.lst []) t = some (.lst []) := upd_same
        generalize upd H5 t (.lst []) = H6 at *
        have al6 := al5.imp fun _ _ h => dp_same s6 h
        have e6 := s6 _ _ e5
        have om : ∀ t ∈ oth, t ∈ stepsR rs ∧ t.1 ≠ s.1 := fun t ht => by
          obtain ⟨a, b⟩ := List.mem_filter.mp ht
          exact ⟨a, of_decide_eq_true b⟩
        refine rd_neD e6 al6 eqv_st ((sh_lst fun t ht => sh_st (nmS t (om t ht).1)).ok (by decide)) et ⟨_, rfl, ?_⟩
        have ks6 := (Kept2.same (p := p) (l := l) s5).trans (Kept2.same s6)
        have fx6 : Fix H3 H6 := (k4.fix d3).trans ((Fix.of s5).trans (Fix.of s6))
        have ey6 := s6 _ _ (s5 _ _ (k4 _ _ ey nf.1 nf.2))
        have aly6 := aly.imp fun _ _ h => dp_fix fx6 (noL_jn _) h
        have es6 := s6 _ _ (s5 _ _ es4)
        have als6 := als.imp fun _ _ h => dp_fix fx6 (noL_st _) h
        have k6 := (k3.trans k4).trans ks6
        have d6 := (d4.same s5).same s6
        refine iteN (fun ne => ?_) fun _ => ⟨_, _, _, _, _, js, rfl, k6, d6, ⟨ss, es6, als6⟩, ⟨ys, ey6, aly6⟩, by omega, gj⟩
        have nD := deal_ne d4 hD
        have on : 1 ≤ oth.length := by
          cases h : oth with
          | nil => exact absurd h ne
          | cons _ _ => simp
        have ol : oth.length ≤ (stepsR rs).length := List.length_filter_le _ _
        have lz := al5.len
        refine ⟨_, rfl, _, rfl, p, l, D, zs, rfl, d6, fun H' k => SqX.lst (k _ _ e6 nD.1 nD.2), ⟨by omega, by omega⟩, fun x H7 hx k7 d7 => ?_⟩
        obtain ⟨u, hu, du⟩ := all2_memL al6 hx
        obtain ⟨c, rfl, hc⟩ := dp_st (dp_fix (k7.fix d6) (noL_st u) du)
        have fb7 : Fix H4 H7 := ((Fix.of s5).trans (Fix.of s6)).trans (k7.fix d6)
        have hb7 := tupFix fb7 hb
        refine ⟨_, rfl, b, _, 1, _, rfl, rfl, hb7, at1, _, rfl, c, _, 1, _, rfl, rfl, hc, at1, _, _, rfl, rfl, _, rfl, ?_⟩
        refine and_end (I := fun H8 => Kept2 p l H7 H8 ∧ DealAt H8 p l) ⟨Kept2.refl _ _ _, d7⟩ (fun Q' fin => ?_) fun z H8 hh => ?_
        · refine ⟨_, rfl, p, l, 4, rfl, ⟨by decide, by decide⟩, d7, fun d H8 _ _ k8 d8 => ⟨_, _, rfl, rfl, fin _ _ ⟨k8, d8⟩⟩⟩
        · obtain ⟨k8, d8⟩ := hh
          have fx8 : Fix H6 H8 := (k7.fix d6).trans (k8.fix d7)
          have hb8 := tupFix (k8.fix d7) hb7
          have hc8 := tupFix (k8.fix d7) hc
          have ey8 := k8 _ _ (k7 _ _ ey6 nf.1 nf.2) nf.1 nf.2
          have es8 := k8 _ _ (k7 _ _ es6 np.1 np.2) np.1 np.2
          have aly8 := aly6.imp fun _ _ h => dp_fix fx8 (noL_jn _) h
          have als8 := als6.imp fun _ _ h => dp_fix fx8 (noL_st _) h
          have k08 := (k6.trans k7).trans k8
          have ds8 : Dp K H8 (.ref b) (stD s) := .tup hb8 (.cons (.str _) (.cons (.int _) .nil))
          have du8 : Dp K H8 (.ref c) (stD u) := .tup hc8 (.cons (.str _) (.cons (.int _) .nil))
          have ends : ∀ (g : Addr) (xs : List V) (jn : Jn), H8 g = none → DpAll K H8 xs [stD jn.1, stD jn.2] → (jn.1 ∈ stepsR rs ∧ jn.2 ∈ stepsR rs ∧ jn.1.1 ≠ jn.2.1) → Kept2 p l H (upd (upd H8 g (.tup xs)) fp (.lst (ys ++ [V.ref g]))) ∧ DealAt (upd (upd H8 g (.tup xs)) fp (.lst (ys ++ [V.ref g]))) p l ∧ ListAt K (upd (upd H8 g (.tup xs)) fp (.lst (ys ++ [V.ref g]))) sp stD (stepsR rs) ∧ ListAt K (upd (upd H8 g (.tup xs)) fp (.lst (ys ++ [V.ref g]))) fp jnD (js ++ [jn]) := by
            intro g xs jn hg da gd
            have s9 := same_new hg (.tup xs)
            have ey9 := s9 _ _ ey8
            have ng : g ≠ fp := (ne_of_none ey8 hg).symm
            have fx9 : Fix H8 (upd (upd H8 g (.tup xs)) fp (.lst (ys ++ [V.ref g]))) := (Fix.of s9).trans (Fix.lst ey9)
            refine ⟨fun a o e h1 h2 => ?_, deal_upd (d8.same s9) nf.1 nf.2, ⟨ss, ?_, als8.imp fun _ _ h => dp_fix fx9 (noL_st _) h⟩, ⟨_, upd_same, (aly8.imp fun _ _ h => dp_fix fx9 (noL_jn _) h).app (.cons (.tup (SqT.of (by rw [upd_ne ng]; exact upd_same)) (dpa_fix fx9 ?_ da)) .nil)⟩⟩
            · rw [upd_ne (ne_of_none e hfp0)]
              exact s9 _ _ (k08 _ _ e h1 h2)
            · rw [upd_ne nsf]
              exact s9 _ _ es8
            · simp [noLs, noL_st]
          refine ⟨_, rfl, .inl ⟨rfl, _, SqL.of ey8⟩, ?_⟩
          have lyy := aly.len
          cases z with
          | true =>
            refine ⟨_, rfl, true, rfl, iteT ⟨_, rfl, _, rfl, by show 2 ≤ sizeLine; decide, fun g hg => ?_⟩⟩
            have s9 := same_new hg (.tup [V.ref c, .ref b])
            obtain ⟨a1, a2, a3, a4⟩ := ends g _ (u, s) hg (.cons du8 (.cons ds8 .nil)) ⟨(om u hu).1, hs, (om u hu).2⟩
            exact ⟨fp, ys, _, rfl, rfl, s9 _ _ ey8, by rw [sizeLine_eq]; omega, _, _, _, _, _, js ++ [(u, s)], rfl, a1, a2, a3, a4, by rw [List.length_append]; exact Nat.succ_le_succ lj, fun j hj => (List.mem_append.mp hj).elim (gj j) fun h => by rw [List.mem_singleton.mp h]; exact ⟨(om u hu).1, hs, (om u hu).2⟩⟩
          | false =>
            refine ⟨_, rfl, false, rfl, iteF ⟨_, rfl, _, rfl, by show 2 ≤ sizeLine; decide, fun g hg => ?_⟩⟩
            have s9 := same_new hg (.tup [V.ref b, .ref c])
            obtain ⟨a1, a2, a3, a4⟩ := ends g _ (s, u) hg (.cons ds8 (.cons du8 .nil)) ⟨hs, (om u hu).1, (om u hu).2.symm⟩
            exact ⟨fp, ys, _, rfl, rfl, s9 _ _ ey8, by rw [sizeLine_eq]; omega, _, _, _, _, _, js ++ [(s, u)], rfl, a1, a2, a3, a4, by rw [List.length_append]; exact Nat.succ_le_succ lj, fun j hj => (List.mem_append.mp hj).elim (gj j) fun h => by rw [List.mem_singleton.mp h]; exact ⟨hs, (om u hu).1, (om u hu).2.symm⟩⟩
      · rintro σ H3 ⟨o5, o6, o7, o8, o9, js, rfl, k3, d3, _, lj, l9, gj⟩
        exact ⟨o5, o6, o7, o8, o9, js, rfl, k3, d3, lj, by omega, gj⟩
    rintro σ H3 ⟨o5, o6, o7, o8, o9, js, rfl, k3, d3, lj, l9, gj⟩
    exact ⟨_, rfl, q fp H3 js k3 d3 hfp0 lj l9 gj⟩
end
end R0

namespace R0
open PySem PySem.Spec PyProof.Rows L2 Hb St Sq Ow En Zp RZ Rd Xb Da Wa
def nms3 : List (List Str) := [[Str.ofString "a", Str.ofString "b", Str.ofString "c"], [Str.ofString "zoo", Str.ofString "hall", Str.ofString "a"], [Str.ofString "abcdefgh", Str.ofString "abcdefgi", Str.ofString "b"]]
/-- what the law's rooms keep -/
structure RLaw (rs : List Rm) (gs cs : List Jn) : Prop where
  nm : ∃ ns ∈ nms3, rs.map (·.1) = ns.take rs.length
  nr : 1 ≤ rs.length ∧ rs.length ≤ 3
  tl : ∀ r ∈ rs, r.2.length ≤ 3 ∧ ∀ a ∈ r.2, a ∈ lots7
  ne : stepsR rs ≠ []
  tot : (stepsR rs).length ≤ 6
  lg : gs.length ≤ 2
  lc : cs.length ≤ 3
  gj : ∀ j ∈ gs, j.1 ∈ stepsR rs ∧ j.2 ∈ stepsR rs ∧ j.1.1 ≠ j.2.1
  cj : ∀ j ∈ cs, j.1 ∈ stepsR rs ∧ j.2 ∈ stepsR rs ∧ j.1.1 ≠ j.2.1
theorem ListAt.kept {α : Type} {K : PySem.W.Frag} {H H' : Hp} {q p l : Addr} {f : α → PyData} {xs : List α} (h : ListAt K H q f xs) (k : Kept2 p l H H') (d : DealAt H p l) (n : q ≠ p ∧ q ≠ l) (nf : ∀ a, noL (f a) = true) : ListAt K H' q f xs :=
  let ⟨ys, e, a⟩ := h; ⟨ys, k _ _ e n.1 n.2, a.imp fun _ _ g => dp_fix (k.fix d) (nf _) g⟩
theorem pick_ints {K : PySem.W.Frag} {H : Hp} {Q : VK} {p l t : Addr} (ns : List Int) (d : DealAt H p l) (ht : H t = none) (n1 : 1 ≤ ns.length) (n2 : ns.length ≤ 20) (q : ∀ n H', n ∈ ns → Kept2 p l H H' → DealAt H' p l → Q (.int n) H') : spPick K [.ref p, .ref t] (upd H t (.lst (ns.map V.int))) Q E0 := by
  have s := same_new ht (.lst (ns.map V.int))
  have nt := deal_ne d ht
  refine ⟨p, l, t, ns.map V.int, rfl, d.same s, fun H' k => SqX.lst (k _ _ upd_same nt.1 nt.2), ⟨by rw [List.length_map]; exact n1, by rw [List.length_map]; omega⟩, fun x H' hx k d' => ?_⟩
  obtain ⟨n, hn, rfl⟩ := List.mem_map.mp hx
  exact q n H' hn ((Kept2.same s).trans k) d'
structure RPart (mo : Int) (ns : List Str) (rs : List Rm) (left : Int) : Prop where
  nm : rs.map (·.1) = ns.take rs.length
  tl : ∀ r ∈ rs, r.2.length ≤ 3 ∧ ∀ a ∈ r.2, a ∈ lots7
  lf : left + (stepsR rs).length = mo
  l0 : 0 ≤ left
theorem RPart.snoc {mo : Int} {ns : List Str} {rs : List Rm} {left : Int} {n : Str} {t : Tale} (h : RPart mo ns rs left) (en : ns[rs.length]? = some n) (ht : (t.length : Int) ≤ left) (t3 : t.length ≤ 3) (tm : ∀ a ∈ t, a ∈ lots7) : RPart mo ns (rs ++ [(n, t)]) (left - t.length) := by
  refine ⟨?_, fun r hr => ?_, ?_, by omega⟩
  · rw [List.map_append, h.nm, List.length_append, List.length_singleton, List.take_add_one, en]; rfl
  · rcases List.mem_append.mp hr with hr | hr
    · exact h.tl r hr
    · rw [List.mem_singleton.mp hr]; exact ⟨t3, tm⟩
  · have := h.lf
    rw [stepsR_app, List.length_append, List.length_map, List.length_range]
    show left - (t.length : Int) + (((stepsR rs).length + t.length : Nat) : Int) = mo
    omega
theorem none_kept {p l q : Addr} {H H' : Hp} (k : Kept2 p l H H') (d : DealAt H' p l) (h : H' q = none) : H q = none := by
  obtain ⟨n1, n2⟩ := deal_ne d h
  cases e : H q with
  | none => rfl
  | some o => rw [k _ _ e n1 n2] at h; cases h
structure RHalf (rs : List Rm) : Prop where
  nm : ∃ ns ∈ nms3, rs.map (·.1) = ns.take rs.length
  nr : 1 ≤ rs.length ∧ rs.length ≤ 3
  tl : ∀ r ∈ rs, r.2.length ≤ 3 ∧ ∀ a ∈ r.2, a ∈ lots7
  ne : stepsR rs ≠ []
  tot : (stepsR rs).length ≤ 6
theorem nms3_ok : ∀ ns ∈ nms3, ns.length = 3 ∧ ∀ n ∈ ns, IsNm n := by
  unfold IsNm
  decide +kernel
theorem RHalf.isn {rs : List Rm} (h : RHalf rs) : ∀ a ∈ rs, IsNm a.1 := by
  obtain ⟨ns, hn, e⟩ := h.nm
  intro a ha
  have : a.1 ∈ rs.map (·.1) := List.mem_map_of_mem ha
  rw [e] at this
  exact (nms3_ok ns hn).2 _ (List.mem_of_mem_take this)
section
variable {P : Program} {w : World} {K : PySem.W.Frag} {mg : Str → Option Value} {base : Heap}
/-! ### _law_rooms -/
abbrev s__law_rooms : Stmt := top 43
theorem sc__law_rooms : FnScope ["deal", "most", "names", "rooms", "left", "at", "many", "gongs"] ["deal", "most"] (defScope s__law_rooms) := ⟨rfl, rfl, rfl, by decide +kernel, rfl, by decide +kernel, by decide +kernel⟩
def spRooms (K : PySem.W.Frag) : Sp := fun vs H Q _ => ∃ (p l : Addr) (mo : Int), vs = [.ref p, .int mo] ∧ 5 ≤ mo ∧ mo ≤ 6 ∧ DealAt H p l ∧ ∀ u a b c H' (rs : List Rm) (gs cs : List Jn), Kept2 p l H H' → DealAt H' p l → SqT K H' u [.ref a, .ref b, .ref c] → H a = none → H b = none → H c = none → ListAt K H' a rmD rs → ListAt K H' b jnD gs → ListAt K H' c jnD cs → RLaw rs gs cs → Q (.ref u) H'
theorem ok_lrooms {f : Addr} {fd : FuncData} (F : Fun K "_law_rooms" "_law_rooms" s__law_rooms f fd) (C__law_joins : Cl P w K mg base "_law_joins" ["deal", "rooms", "many"] [] 3 (spJoins K)) (C__law_pick : Cl P w K mg base "_law_pick" ["deal", "some"] [] 2 (spPick K)) (C__law_tale : Cl P w K mg base "_law_tale" ["deal", "many"] [] 3 (spTale K)) (n_min : mg "min" = none) (n_range : mg "range" = none) : FnOk P w K mg base CX0 4 f fd ["deal", "most"] (spRooms K) := by
  refine F.ok sc__law_rooms (fun vs H Q E h => ?_) (fun cdv A outer s H vs Q E hr h => ?_)
  · obtain ⟨_, _, _, rfl, _⟩ := h
    rfl
  · obtain ⟨p, l, mo, rfl, mo5, mo6, dl, q⟩ := h
    refine ⟨_, (pss_cons (ps_set (i := 2) sc__law_rooms.nd rfl (Or.inl rfl) (pe_use C__law_pick (hr.mono (by decide)) rfl (pa_cons (pv 0) (pa_cons (pe_lst (pa_cons (pe_lst (pa_cons pe_str (pa_cons pe_str (pa_cons pe_str pa_nil)))) (pa_cons (pe_lst (pa_cons pe_str (pa_cons pe_str (pa_cons pe_str pa_nil)))) (pa_cons (pe_lst (pa_cons pe_str (pa_cons pe_str (pa_cons pe_str pa_nil)))) pa_nil)))) pa_nil))))
    (pss_cons (ps_par (i := 3) (j := 4) (by rfl) sc__law_rooms.nd rfl rfl (by decide) rfl rfl (pa_cons (pe_lst pa_nil) (pa_cons (pv 1) pa_nil)) (by rfl))
    (Evl.pss_cut (ps_for PassesOwn.never rfl (pi_range1 (by rfl) n_range (pa_cons (pe_use C__law_pick (hr.mono (by decide)) rfl (pa_cons (pv 0) (pa_cons (pe_lst (pa_cons pe_int (pa_cons pe_int (pa_cons pe_int (pa_cons pe_int (pa_cons pe_int (pa_cons pe_int (pa_cons pe_int pa_nil)))))))) pa_nil))) pa_nil)) (pg_name (i := 5) sc__law_rooms.nd rfl (Or.inl rfl))
      (pss_cons (ps_set (i := 6) sc__law_rooms.nd rfl (Or.inl rfl) (pe_callB (call_min2 rfl) (by rfl) n_min PyProof.Rows.boot_min (pa_cons (pv 4) (pa_cons (pe_use C__law_pick (hr.mono (by decide)) rfl (pa_cons (pv 0) (pa_cons (pe_lst (pa_cons pe_int (pa_cons pe_int (pa_cons pe_int (pa_cons pe_int (pa_cons pe_int (pa_cons pe_int (pa_cons pe_int pa_nil)))))))) pa_nil))) pa_nil))))
    (pss_cons (ps_expr (pe_bm PySem.F.plainAttrs_list PySem.F.slot_list_append PySem.F.type_list_append mt_append (pv 3) (pa_cons (pe_tup (pa_cons (pe_ix ix_list (pv 2) (pv 5) (fun _ _ => rfl)) (pa_cons (pe_use C__law_tale (hr.mono (by decide)) rfl (pa_cons (pv 0) (pa_cons (pv 6) pa_nil))) pa_nil))) pa_nil)))
    (pss_one (ps_set (i := 4) sc__law_rooms.nd rfl (Or.inl rfl) (pe_op op_sub (pv 4) (pv 6)))))))
    (Evl.pss_cut (ps_if (pt_cmpR op_eq (pv 4) (pv 1) (nomark _)) (pss_one (ps_asg (pe_tup (pa_cons (pe_ix ix_list (pv 2) pe_int (fun _ _ => rfl)) (pa_cons (pe_use C__law_tale (hr.mono (by decide)) rfl (pa_cons (pv 0) (pa_cons pe_int pa_nil))) pa_nil))) (pg_sub (pv 3) pe_int set_list))) pss_nil)
    (pss_cons (ps_set (i := 7) sc__law_rooms.nd rfl (Or.inl rfl) (pe_use C__law_joins (hr.mono (by decide)) rfl (pa_cons (pv 0) (pa_cons (pv 3) (pa_cons (pe_use C__law_pick (hr.mono (by decide)) rfl (pa_cons (pv 0) (pa_cons (pe_lst (pa_cons pe_int (pa_cons pe_int (pa_cons pe_int (pa_cons pe_int (pa_cons pe_int pa_nil)))))) pa_nil))) pa_nil)))))
    (pss_one (ps_ret (pe_tup (pa_cons (pv 3) (pa_cons (pv 7) (pa_cons (pe_use C__law_joins (hr.mono (by decide)) rfl (pa_cons (pv 0) (pa_cons (pv 3) (pa_cons (pe_use C__law_pick (hr.mono (by decide)) rfl (pa_cons (pv 0) (pa_cons (pe_lst (pa_cons pe_int (pa_cons pe_int (pa_cons pe_int (pa_cons pe_int (pa_cons pe_int pa_nil)))))) pa_nil))) pa_nil)))) pa_nil))))))))))), ?_⟩
    refine ⟨_, rfl, by show 3 ≤ sizeLine; decide, fun b1 h1 => ⟨by show 3 ≤ sizeLine; decide, fun b2 h2 => ⟨by show 3 ≤ sizeLine; decide, fun b3 h3 => ⟨by show 3 ≤ sizeLine; decide, fun t ht => ?_⟩⟩⟩⟩
    have s1 := same_new h1 (.lst [V.str (Str.ofString "a"), .str (Str.ofString "b"), .str (Str.ofString "c")])
    have e1 : upd H b1 (.lst [V.str (Str.ofString "a"), .str (Str.ofString "b"), .str (Str.ofString "c")]) b1 = _ := upd_same
    generalize upd H b1 (.lst [V.str (Str.ofString "a"), .str (Str.ofString "b"), .str (Str.ofString "c")]) = H1 at *
    have s2 := same_new h2 (.lst [V.str (Str.ofString "zoo"), .str (Str.ofString "hall"), .str (Str.ofString "a")])
    have e2 : upd H1 b2 (.lst [V.str (Str.ofString "zoo"), .str (Str.ofString "hall"), .str (Str.ofString "a")]) b2 = _ := upd_same
    generalize upd H1 b2 (.lst [V.str (Str.ofString "zoo"), .str (Str.ofString "hall"), .str (Str.ofString "a")]) = H2 at *
    have s3 := same_new h3 (.lst [V.str (Str.ofString "abcdefgh"), .str (Str.ofString "abcdefgi"), .str (Str.ofString "b")])
    have e3 : upd H2 b3 (.lst [V.str (Str.ofString "abcdefgh"), .str (Str.ofString "abcdefgi"), .str (Str.ofString "b")]) b3 = _ := upd_same
    generalize upd H2 b3 (.lst [V.str (Str.ofString "abcdefgh"), .str (Str.ofString "abcdefgi"), .str (Str.ofString "b")]) = H3 at *
    have s4 := same_new ht (.lst [V.ref b1, .ref b2, .ref b3])
    have e4 : upd H3 t (.lst [V.ref b1, .ref b2, .ref b3]) t = _ := upd_same
    generalize upd H3 t (.lst [V.ref b1, .ref b2, .ref b3]) = H4 at *
    have s04 := ((s1.trans s2).trans s3).trans s4
    have nt := deal_ne (((dl.same s1).same s2).same s3) ht
    have nb1 := deal_ne dl h1
    have nb2 := deal_ne (dl.same s1) h2
    have nb3 := deal_ne ((dl.same s1).same s2) h3
    have d4 := dl.same s04
    refine ⟨p, l, t, _, rfl, d4, fun H' k => SqX.lst (k _ _ e4 nt.1 nt.2), ⟨by show 1 ≤ 3; decide, by show 3 ≤ 1000; decide⟩, fun x H5 hx k5 d5 => ?_⟩
    have hx2 : ∃ nl ns, x = .ref nl ∧ ns ∈ nms3 ∧ H5 nl = some (.lst (ns.map V.str)) ∧ nl ≠ p ∧ nl ≠ l := by
      simp only [List.mem_cons, List.mem_nil_iff, or_false] at hx
      rcases hx with rfl | rfl | rfl
      · exact ⟨b1, [Str.ofString "a", Str.ofString "b", Str.ofString "c"], rfl, by decide, k5 _ _ (s4 _ _ (s3 _ _ (s2 _ _ e1))) nb1.1 nb1.2, nb1⟩
      · exact ⟨b2, [Str.ofString "zoo", Str.ofString "hall", Str.ofString "a"], rfl, by decide, k5 _ _ (s4 _ _ (s3 _ _ e2)) nb2.1 nb2.2, nb2⟩
      · exact ⟨b3, [Str.ofString "abcdefgh", Str.ofString "abcdefgi", Str.ofString "b"], rfl, by decide, k5 _ _ (s4 _ _ e3) nb3.1 nb3.2, nb3⟩
    obtain ⟨nl, ns, rfl, hns, en5, nnl⟩ := hx2
    have ln3 : ns.length = 3 := by
      have : ∀ n ∈ nms3, n.length = 3 := by decide
      exact this ns hns
    have k05 := (Kept2.same (p := p) (l := l) s04).trans k5
    refine ⟨by show 0 ≤ sizeLine; decide, fun rl hrl => ⟨_, rfl, _, _, rfl, ?_⟩⟩
    have s6 := same_new hrl (.lst [])
    have e6 : upd H5 rl (.lst []) rl = some (.lst []) := upd_same
    generalize upd H5 rl (.lst []) = H6 at *
    have nrl := deal_ne d5 hrl
    have nnr : nl ≠ rl := ne_of_none en5 hrl
    have k06 := k05.trans (Kept2.same s6)
    have hrl0 : H rl = none := by
      cases h : H rl with
      | none => rfl
      | some o =>
        have := k05 _ _ h nrl.1 nrl.2
        rw [hrl] at this
        cases this
    refine ⟨fun σ H' => ∃ o5 o6 rs left, σ = [some (.ref p), some (.int mo), some (.ref nl), some (.ref rl), some (.int left), o5, o6, none] ∧ Kept2 p l H H' ∧ DealAt H' p l ∧ H' nl = some (.lst (ns.map V.str)) ∧ ListAt K H' rl rmD rs ∧ (1 ≤ rs.length ∧ rs.length ≤ 3) ∧ RPart mo ns rs left, ?_, ?_⟩
    · refine ⟨_, rfl, by show 7 ≤ sizeLine; decide, fun t2 ht2 => pick_ints [1, 2, 2, 2, 3, 3, 3] (d5.same s6) ht2 (by decide) (by decide) fun n H7 hn k7 d7 => ?_⟩
      have n13 : 1 ≤ n ∧ n ≤ 3 := by
        have : ∀ n ∈ ([1, 2, 2, 2, 3, 3, 3] : List Int), 1 ≤ n ∧ n ≤ 3 := by decide
        exact this n hn
      refine ⟨n, rfl, by omega, by omega, ?_⟩
      refine for_range (n := n.toNat) (fun i σ H' => ∃ o5 o6 rs left, σ = [some (.ref p), some (.int mo), some (.ref nl), some (.ref rl), some (.int left), o5, o6, none] ∧ Kept2 p l H H' ∧ DealAt H' p l ∧ H' nl = some (.lst (ns.map V.str)) ∧ ListAt K H' rl rmD rs ∧ rs.length = i ∧ RPart mo ns rs left) ⟨none, none, [], mo, rfl, k06.trans k7, d7, k7 _ _ (s6 _ _ en5) nnl.1 nnl.2, ⟨[], k7 _ _ e6 nrl.1 nrl.2, .nil⟩, rfl, rfl, (fun _ h => nomatch h), Int.add_zero _, by omega⟩ ?_ ?_
      · rintro i σ H8 hi ⟨o5, o6, rs, left, rfl, k8, d8, en8, lr8, rfl, rp⟩
        refine ⟨_, rfl, _, rfl, by show 7 ≤ sizeLine; decide, fun t3 ht3 => pick_ints [0, 1, 1, 2, 2, 2, 3] d8 ht3 (by decide) (by decide) fun m H9 hm k9 d9 => ?_⟩
        have m13 : 0 ≤ m ∧ m ≤ 3 := by
          have : ∀ n ∈ ([0, 1, 1, 2, 2, 2, 3] : List Int), 0 ≤ n ∧ n ≤ 3 := by decide
          exact this m hm
        have l0 := rp.l0
        obtain ⟨mm, emm, hmm⟩ : ∃ mm : Int, (if m < left then m else left) = mm ∧ 0 ≤ mm ∧ mm ≤ 3 ∧ mm ≤ left := by
          refine ⟨_, rfl, ?_⟩
          split <;> omega
        refine ⟨left, m, rfl, ?_⟩
        rw [emm]
        have en9 := k9 _ _ en8 nnl.1 nnl.2
        have lr9 := lr8.kept k9 d8 nrl noL_rm
        obtain ⟨ys, ey, aly⟩ := lr9
        obtain ⟨nm, enm⟩ : ∃ nm, ns[rs.length]? = some nm := ⟨_, List.getElem?_eq_getElem (by omega)⟩
        refine ⟨_, rfl, .inl ⟨rfl, _, SqL.of ey⟩, _, rfl, _, rfl, nl, _, _, .str nm, rfl, rfl, SqL.of en9, ?_, _, rfl, _, rfl, p, l, mm, rfl, d9, hmm.1, hmm.2.1, fun v HA tt kA dA dt ltt mtt => ⟨by show 2 ≤ sizeLine; decide, fun g hg => ?_⟩⟩
        · rw [Int.zero_add]
          exact at_nat (by rw [List.getElem?_map, enm]; rfl)
        have eyA := kA _ _ ey nrl.1 nrl.2
        have sB := same_new hg (.tup [V.str nm, v])
        have eyB := sB _ _ eyA
        have ng : g ≠ rl := (ne_of_none eyA hg).symm
        have fxB : Fix H9 (upd (upd HA g (.tup [V.str nm, v])) rl (.lst (ys ++ [V.ref g]))) := (kA.fix d9).trans ((Fix.of sB).trans (Fix.lst eyB))
        have lyy := aly.len
        refine ⟨rl, ys, _, rfl, rfl, eyB, by rw [sizeLine_eq]; omega, ?_⟩
        refine ⟨_, rfl, _, rfl, _, _, rfl, rfl, _, _, rs ++ [(nm, tt)], left - mm, rfl, ?_, deal_upd (dA.same sB) nrl.1 nrl.2, ?_, ⟨_, upd_same, (aly.imp fun _ _ h => dp_fix fxB (noL_rm _) h).app (.cons (.tup (SqT.of (by rw [upd_ne ng]; exact upd_same)) (.cons (.str _) (.cons (dp_fix ((Fix.of sB).trans (Fix.lst eyB)) (noL_tD _) dt) .nil))) .nil)⟩, by rw [List.length_append]; rfl, ?_⟩
        · intro a o e h1 h2
          rw [upd_ne (ne_of_none e hrl0)]
          exact sB _ _ (kA _ _ (k9 _ _ (k8 _ _ e h1 h2) h1 h2) h1 h2)
        · rw [upd_ne nnr]
          exact sB _ _ (kA _ _ en9 nnl.1 nnl.2)
        · rw [← ltt]
          exact rp.snoc enm (by omega) (by omega) mtt
      · rintro σ H8 ⟨o5, o6, rs, left, rfl, k8, d8, en8, lr8, hl, rp⟩
        exact ⟨o5, o6, rs, left, rfl, k8, d8, en8, lr8, by omega, rp⟩
    rintro σ H7 ⟨o5, o6, rs, left, rfl, k7, d7, en7, lr7, rl3, rp⟩
    refine ⟨fun σ H' => ∃ o5 o6 rs left, σ = [some (.ref p), some (.int mo), some (.ref nl), some (.ref rl), some (.int left), o5, o6, none] ∧ Kept2 p l H H' ∧ DealAt H' p l ∧ ListAt K H' rl rmD rs ∧ RHalf rs, ?_, ?_⟩
    · refine ⟨_, rfl, _, rfl, rfl, _, rfl, ?_⟩
      have c6 : decide (V.int left = V.int mo) = decide (left = mo) := by
        by_cases h : left = mo
        · rw [h]; simp
        · rw [decide_eq_false h, decide_eq_false fun e => h (by injection e)]
      rw [c6]
      refine iteD (fun c => ?_) fun c => ⟨_, _, rs, left, rfl, k7, d7, lr7, ⟨ns, hns, rp.nm⟩, rl3, rp.tl, fun z => ?_, by have := rp.lf; have := rp.l0; omega⟩
      · obtain ⟨ys, ey, aly⟩ := lr7
        have ly := aly.len
        cases aly with
        | nil => exact absurd rl3.1 (by decide)
        | @cons y0 r0 ys rs h0 hr =>
          obtain ⟨nm, enm⟩ : ∃ nm, ns[0]? = some nm := ⟨_, List.getElem?_eq_getElem (by omega)⟩
          have enm0 : r0.1 = nm := by
            have := rp.nm
            cases hn : ns with
            | nil => rw [hn] at ln3; cases ln3
            | cons n0 nr =>
              rw [hn] at this enm
              rw [List.map_cons, List.length_cons, List.take_succ_cons] at this
              injection this with h1 _
              rw [h1]
              exact Option.some.inj enm
          refine ⟨_, rfl, nl, _, 0, _, rfl, rfl, SqL.of en7, at_nat (i := 0) (by rw [List.getElem?_map, enm]; rfl), _, rfl, p, l, 2, rfl, d7, by decide, by decide, fun v HA tt kA dA dt ltt mtt => ⟨by show 2 ≤ sizeLine; decide, fun g hg => ?_⟩⟩
          have nrl := deal_ne dl hrl0
          have eyA := kA _ _ ey nrl.1 nrl.2
          have sB := same_new hg (.tup [V.str nm, v])
          have eyB := sB _ _ eyA
          have ng : g ≠ rl := (ne_of_none eyA hg).symm
          refine ⟨_, rfl, rl, _, 0, 0, rfl, rfl, eyB, (by unfold ixN; rw [if_pos (by decide), if_pos (by rw [List.length_cons]; omega)]; rfl), ?_⟩
          have fxB : Fix H7 (upd (upd HA g (.tup [V.str nm, v])) rl (.lst (V.ref g :: ys))) := (kA.fix d7).trans ((Fix.of sB).trans (Fix.lst eyB))
          have stp : stepsR ((nm, tt) :: rs) = ((List.range tt.length).map fun i : Nat => (nm, ((i : Nat) : Int) + 1)) ++ stepsR rs := rfl
          refine ⟨_, _, (nm, tt) :: rs, left, rfl, ?_, deal_upd (dA.same sB) nrl.1 nrl.2, ⟨_, upd_same, .cons (.tup (SqT.of (by rw [upd_ne ng]; exact upd_same)) (.cons (.str _) (.cons (dp_fix ((Fix.of sB).trans (Fix.lst eyB)) (noL_tD _) dt) .nil))) (hr.imp fun _ _ h => dp_fix fxB (noL_rm _) h)⟩, ⟨ns, hns, ?_⟩, rl3, fun r hr => ?_, fun z => ?_, ?_⟩
          · intro a o e h1 h2
            rw [upd_ne (ne_of_none e hrl0)]
            exact sB _ _ (kA _ _ (k7 _ _ e h1 h2) h1 h2)
          · have := rp.nm
            rw [List.map_cons, enm0] at this
            exact this
          · rcases List.mem_cons.mp hr with rfl | hr
            · exact ⟨by show tt.length ≤ 3; omega, mtt⟩
            · exact rp.tl r (List.mem_cons_of_mem _ hr)
          · have h2 : tt.length = 2 := by omega
            have : (stepsR ((nm, tt) :: rs)).length = 0 := by rw [z]; rfl
            rw [stp, List.length_append, List.length_map, List.length_range] at this
            omega
          · have h2 : tt.length = 2 := by omega
            have h3 := rp.lf
            have h4 : (stepsR (r0 :: rs)).length = (stepsR [r0]).length + (stepsR rs).length := by rw [← List.length_append]; simp [stepsR]
            rw [stp, List.length_append, List.length_map, List.length_range]
            omega
      · have := rp.lf
        rw [z] at this
        exact c (by simpa using this)
    rintro σ H8 ⟨o5, o6, rs, left, rfl, k8, d8, lr8, rh⟩
    have nrl := deal_ne dl hrl0
    have isn := rh.isn
    have tl3 : ∀ a ∈ rs, a.2.length ≤ 3 := fun a ha => (rh.tl a ha).1
    refine ⟨_, rfl, _, rfl, _, rfl, by show 5 ≤ sizeLine; decide, fun t2 ht2 => pick_ints [0, 0, 1, 1, 2] d8 ht2 (by decide) (by decide) fun m H9 hm k9 d9 => ?_⟩
    have m02 : 0 ≤ m ∧ m ≤ 2 := by
      have : ∀ n ∈ ([0, 0, 1, 1, 2] : List Int), 0 ≤ n ∧ n ≤ 2 := by decide
      exact this m hm
    have lr9 := lr8.kept k9 d8 nrl noL_rm
    refine ⟨p, l, rl, rs, m, rfl, d9, nrl.1, nrl.2, lr9, rh.nr, tl3, isn, rh.ne, m02.1, by omega, fun g HA gs kA dA hg lg lgs ggs => ?_⟩
    have lrA := lr9.kept kA d9 nrl noL_rm
    have ng := deal_ne d9 hg
    refine ⟨_, rfl, _, rfl, _, rfl, _, rfl, _, rfl, by show 5 ≤ sizeLine; decide, fun t3 ht3 => pick_ints [0, 1, 2, 2, 3] dA ht3 (by decide) (by decide) fun m3 HB hm3 kB dB => ?_⟩
    have m03 : 0 ≤ m3 ∧ m3 ≤ 3 := by
      have : ∀ n ∈ ([0, 1, 2, 2, 3] : List Int), 0 ≤ n ∧ n ≤ 3 := by decide
      exact this m3 hm3
    have lrB := lrA.kept kB dA nrl noL_rm
    have lgB := lg.kept kB dA ng noL_jn
    refine ⟨p, l, rl, rs, m3, rfl, dB, nrl.1, nrl.2, lrB, rh.nr, tl3, isn, rh.ne, m03.1, m03.2, fun c HC cs kC dC hc lc lcs gcs => ⟨by show 3 ≤ sizeLine; decide, fun u hu => ?_⟩⟩
    have lrC := lrB.kept kC dB nrl noL_rm
    have lgC := lgB.kept kC dB ng noL_jn
    have s9 := same_new hu (.tup [V.ref rl, .ref g, .ref c])
    have kAll := ((((k8.trans k9).trans kA).trans kB).trans kC)
    exact q u rl g c _ rs gs cs (kAll.trans (Kept2.same s9)) (dC.same s9) (SqT.of upd_same) hrl0 (none_kept (k8.trans k9) d9 hg) (none_kept (((k8.trans k9).trans kA).trans kB) dB hc) (lrC.same s9) (lgC.same s9) (lc.same s9) ⟨rh.nm, rh.nr, rh.tl, rh.ne, rh.tot, by omega, by omega, ggs, gcs⟩
end
end R0

/-! x in t, x not in t: t a tuple of data -/
namespace Tn
open PySem PySem.Spec PyProof.Rows L2
def rInT (K : PySem.W.Frag) : R2 := fun x y H Q => ∃ d ds, Dp K H x d ∧ Dp K H y (.tuple ds) ∧ SeqAt.shaped d = true ∧ SeqAt.shaped (.tuple ds) = true ∧ Q (.bl (ds.any fun z => PyData.eqv z d)) H
def rNotInT (K : PySem.W.Frag) : R2 := fun x y H Q => ∃ d ds, Dp K H x d ∧ Dp K H y (.tuple ds) ∧ SeqAt.shaped d = true ∧ SeqAt.shaped (.tuple ds) = true ∧ Q (.bl (!ds.any fun z => PyData.eqv z d)) H
section
variable {X : Cx}
theorem op_inT (hu : X.A.units + 65 < cLine) : OpR X (compareOp .In) (rInT X.K) := by
  intro pins s σ H x y v u Q I rx ry ⟨d, ds, hd, he, sd, se, q⟩
  obtain ⟨_, r1⟩ := Dp.reads I d x v hd rx
  obtain ⟨_, r2⟩ := Dp.reads I (.tuple ds) y u he ry
  exact SeqAt.in_tuple_reads r2 r1 (SeqAt.canLay_of_shaped se) (SeqAt.canLay_of_shaped sd) (room_in_shaped sd hu) ⟨.bl _, H, I, rfl, q⟩
theorem op_notInT (hu : X.A.units + 65 < cLine) : OpR X (compareOp .NotIn) (rNotInT X.K) := by
  intro pins s σ H x y v u Q I rx ry ⟨d, ds, hd, he, sd, se, q⟩
  obtain ⟨_, r1⟩ := Dp.reads I d x v hd rx
  obtain ⟨_, r2⟩ := Dp.reads I (.tuple ds) y u he ry
  exact SeqAt.notIn_tuple_reads r2 r1 (SeqAt.canLay_of_shaped se) (SeqAt.canLay_of_shaped sd) (room_in_shaped sd hu) ⟨.bl _, H, I, rfl, q⟩
end
end Tn

namespace R0
open PySem PySem.Spec PyProof.Rows L2 Hb St Sq Ow En Zp RZ Rd Xb Da Wa Tn
/-! ### steps that stand as tuples of their own -/
def stK (s : Stp) : List Key := [Sum.inr s.1, Sum.inl s.2]
theorem stK_inj {a b : Stp} (h : stK a = stK b) : a = b := by
  obtain ⟨x, i⟩ := a
  obtain ⟨y, j⟩ := b
  unfold stK at h
  injection h with h1 h2
  injection h2 with h2 _
  injection h1 with h1
  injection h2 with h2
  exact Prod.ext h1 h2
def StT (H : Hp) (v : V) (s : Stp) : Prop := ∃ b, v = .ref b ∧ H b = some (.tup [.str s.1, .int s.2])
theorem StT.same {H H' : Hp} {v : V} {s : Stp} (h : StT H v s) (k : Same H H') : StT H' v s := let ⟨b, e, t⟩ := h; ⟨b, e, k _ _ t⟩
theorem StT.fix {H H' : Hp} {v : V} {s : Stp} (h : StT H v s) (k : Fix H H') : StT H' v s := let ⟨b, e, t⟩ := h; ⟨b, e, k _ _ t (fun z => by rcases z with ⟨_, z⟩ | ⟨_, z⟩ <;> cases z)⟩
theorem StT.dp {K : PySem.W.Frag} {H : Hp} {v : V} {s : Stp} (h : StT H v s) : Dp K H v (stD s) := by
  obtain ⟨b, rfl, t⟩ := h
  exact .tup (SqT.of t) (.cons (.str _) (.cons (.int _) .nil))
/-! ### which steps lead -/
def aheadB (R : RD) (a b : Stp) : Bool := (decide (a.1 = b.1) && decide (a.2 < b.2)) || decide ((a, b) ∈ R.calls)
def leadB (R : RD) (a b : Stp) : Bool := aheadB R a b || (decide ((a, b) ∈ R.gongs) || decide ((b, a) ∈ R.gongs))
theorem any_jn (l : List Jn) (j : Jn) : ((l.map jnD).any fun z => PyData.eqv z (jnD j)) = decide (j ∈ l) := by
  induction l with
  | nil => simp
  | cons a r ih =>
    rw [List.map_cons, List.any_cons, ih, eqv_jn, ← Bool.decide_or]
    exact decide_eq_decide.mpr (by rw [List.mem_cons, eq_comm])
theorem pair_shaped {a b : Stp} (h1 : IsNm a.1) (h2 : IsNm b.1) : SeqAt.shaped (jnD (a, b)) = true := (sh_jn (j := (a, b)) ⟨h1, h2⟩).ok (by decide)
section
variable {P : Program} {w : World} {K : PySem.W.Frag} {mg : Str → Option Value} {base : Heap} {C : Addr}
/-! ### is_ahead -/
abbrev s_is_ahead : Stmt := top 28
theorem sc_is_ahead : FnScope ["rooms", "one", "other"] ["rooms", "one", "other"] (defScope s_is_ahead) := ⟨rfl, rfl, rfl, by decide +kernel, rfl, by decide +kernel, by decide +kernel⟩
def spAhead (K : PySem.W.Frag) (C : Addr) : Sp := fun vs H Q _ => ∃ (m : Addr) (v1 v2 : V) (a b : Stp) (R : RD), vs = [.ref m, v1, v2] ∧ RoomsAt K C H m R ∧ RNm R ∧ Dp K H v1 (stD a) ∧ Dp K H v2 (stD b) ∧ IsNm a.1 ∧ IsNm b.1 ∧ ∀ H', Same H H' → Q (.bl (aheadB R a b)) H'
theorem ok_ahead {f : Addr} {fd : FuncData} (F : Fun K "is_ahead" "is_ahead" s_is_ahead f fd) (TC : RmT K C) : FnOk P w K mg base CX0 1 f fd ["rooms", "one", "other"] (spAhead K C) := by
  refine F.ok sc_is_ahead (fun vs H Q E h => ?_) (fun cdv A outer s H vs Q E hr h => ?_)
  · obtain ⟨_, _, _, _, _, _, rfl, _⟩ := h
    rfl
  · obtain ⟨m, v1, v2, a, b, R, rfl, ⟨dx, r1, r2, r3, hm, e1, e2, e3⟩, nR, h1, h2, n1, n2, q⟩ := h
    refine ⟨_, (pss_one (ps_ret (pe_or (pe_and (pe_cmpR op_eq (pe_ix ix_tup (pv 1) pe_int (fun _ _ => rfl)) (pe_ix ix_tup (pv 2) pe_int (fun _ _ => rfl)) (nomark _)) (pe_one (pe_cmpR op_lt (pe_ix ix_tup (pv 1) pe_int (fun _ _ => rfl)) (pe_ix ix_tup (pv 2) pe_int (fun _ _ => rfl)) (nomark _)))) (pe_one (pe_cmpR (op_inT hr.units65) (pe_tup (pa_cons (pv 1) (pa_cons (pv 2) pa_nil))) (pe_fld (pv 0) rfl) rfl))))), ?_⟩
    obtain ⟨p1, rfl, t1⟩ := dp_st h1
    obtain ⟨p2, rfl, t2⟩ := dp_st h2
    refine ⟨_, rfl, p1, _, 0, _, rfl, rfl, t1, at0, _, rfl, p2, _, 0, _, rfl, rfl, t2, at0, rfl, _, rfl, ?_⟩
    rw [eqStr]
    have tail : ∀ H', Same H H' → (decide (a.1 = b.1) && decide (a.2 < b.2)) = false → ∀ t, H' t = none → Q (.bl (decide ((a, b) ∈ R.calls))) (upd H' t (.tup [.ref p1, .ref p2])) := fun H' s c t ht => by
      have := q _ (s.trans (same_new ht (.tup [V.ref p1, .ref p2])))
      unfold aheadB at this
      rw [c, Bool.false_or] at this
      exact this
    by_cases c1 : a.1 = b.1
    · rw [decide_eq_true c1]
      refine iteT ⟨_, rfl, p1, _, 1, _, rfl, rfl, t1, at1, _, rfl, p2, _, 1, _, rfl, rfl, t2, at1, _, _, rfl, rfl, _, rfl, ?_⟩
      by_cases c2 : a.2 < b.2
      · rw [decide_eq_true c2]
        refine iteT ?_
        have := q H (Same.refl H)
        unfold aheadB at this
        rw [decide_eq_true c1, decide_eq_true c2] at this
        exact this
      · rw [decide_eq_false c2]
        have c0 : (decide (a.1 = b.1) && decide (a.2 < b.2)) = false := by rw [decide_eq_false c2, Bool.and_false]
        refine iteF ⟨_, rfl, _, rfl, by show 2 ≤ sizeLine; decide, fun t ht => ?_⟩
        have s1 := same_new ht (.tup [V.ref p1, .ref p2])
        have et : upd H t (.tup [V.ref p1, .ref p2]) t = _ := upd_same
        refine ⟨_, rfl, m, C, dx, _, _, rfl, s1 _ _ hm, TC.cl, TC.nC, rfl, jnD (a, b), R.calls.map jnD, .tup (SqT.of et) (.cons (dp_same s1 h1) (.cons (dp_same s1 h2) .nil)), dp_same s1 e3, pair_shaped n1 n2, (sh_jns nR.c).ok (by decide), ?_⟩
        rw [any_jn]
        exact tail H (Same.refl H) c0 t ht
    · rw [decide_eq_false c1]
      have c0 : (decide (a.1 = b.1) && decide (a.2 < b.2)) = false := by rw [decide_eq_false c1, Bool.false_and]
      refine iteF ⟨_, rfl, iteF ⟨_, rfl, _, rfl, by show 2 ≤ sizeLine; decide, fun t ht => ?_⟩⟩
      have s1 := same_new ht (.tup [V.ref p1, .ref p2])
      have et : upd H t (.tup [V.ref p1, .ref p2]) t = _ := upd_same
      refine ⟨_, rfl, m, C, dx, _, _, rfl, s1 _ _ hm, TC.cl, TC.nC, rfl, jnD (a, b), R.calls.map jnD, .tup (SqT.of et) (.cons (dp_same s1 h1) (.cons (dp_same s1 h2) .nil)), dp_same s1 e3, pair_shaped n1 n2, (sh_jns nR.c).ok (by decide), ?_⟩
      rw [any_jn]
      exact tail H (Same.refl H) c0 t ht
theorem RoomsAt.same {K : PySem.W.Frag} {H H' : Hp} {m : Addr} {R : RD} (h : RoomsAt K C H m R) (s : Same H H') : RoomsAt K C H' m R := by
  obtain ⟨dx, r1, r2, r3, hm, e1, e2, e3⟩ := h
  exact ⟨dx, r1, r2, r3, s _ _ hm, dp_same s e1, dp_same s e2, dp_same s e3⟩
/-! ### is_leading -/
abbrev s_is_leading : Stmt := top 29
theorem sc_is_leading : FnScope ["rooms", "one", "other"] ["rooms", "one", "other"] (defScope s_is_leading) := ⟨rfl, rfl, rfl, by decide +kernel, rfl, by decide +kernel, by decide +kernel⟩
def spLead (K : PySem.W.Frag) (C : Addr) : Sp := fun vs H Q _ => ∃ (m : Addr) (v1 v2 : V) (a b : Stp) (R : RD), vs = [.ref m, v1, v2] ∧ RoomsAt K C H m R ∧ RNm R ∧ Dp K H v1 (stD a) ∧ Dp K H v2 (stD b) ∧ IsNm a.1 ∧ IsNm b.1 ∧ ∀ H', Same H H' → Q (.bl (leadB R a b)) H'
theorem ok_lead {f : Addr} {fd : FuncData} (F : Fun K "is_leading" "is_leading" s_is_leading f fd) (TC : RmT K C) (C_is_ahead : Cl P w K mg base "is_ahead" ["rooms", "one", "other"] [] 1 (spAhead K C)) : FnOk P w K mg base CX0 2 f fd ["rooms", "one", "other"] (spLead K C) := by
  refine F.ok sc_is_leading (fun vs H Q E h => ?_) (fun cdv A outer s H vs Q E hr h => ?_)
  · obtain ⟨_, _, _, _, _, _, rfl, _⟩ := h
    rfl
  · obtain ⟨m, v1, v2, a, b, R, rfl, rm, nR, h1, h2, n1, n2, q⟩ := h
    refine ⟨_, (pss_one (ps_ret (pe_or (pe_use C_is_ahead (hr.mono (by decide)) rfl (pa_cons (pv 0) (pa_cons (pv 1) (pa_cons (pv 2) pa_nil)))) (pe_or (pe_cmpR (op_inT hr.units65) (pe_tup (pa_cons (pv 1) (pa_cons (pv 2) pa_nil))) (pe_fld (pv 0) rfl) rfl) (pe_one (pe_cmpR (op_inT hr.units65) (pe_tup (pa_cons (pv 2) (pa_cons (pv 1) pa_nil))) (pe_fld (pv 0) rfl) rfl)))))), ?_⟩
    refine ⟨_, rfl, _, rfl, _, rfl, m, v1, v2, a, b, R, rfl, rm, nR, h1, h2, n1, n2, fun H1 s1 => ⟨_, rfl, ?_⟩⟩
    obtain ⟨dx, r1, r2, r3, hm, e1, e2, e3⟩ := rm.same s1
    have h1 := dp_same s1 h1
    have h2 := dp_same s1 h2
    have q1 := q H1 s1
    have q := fun H' s => q H' (s1.trans s)
    unfold leadB at q q1
    cases c1 : aheadB R a b with
    | true =>
      rw [c1] at q1
      exact iteT q1
    | false =>
      rw [c1] at q
      simp only [Bool.false_or] at q
      refine iteF ⟨_, rfl, _, rfl, by show 2 ≤ sizeLine; decide, fun t ht => ?_⟩
      have s2 := same_new ht (.tup [v1, v2])
      have et : upd H1 t (.tup [v1, v2]) t = _ := upd_same
      generalize upd H1 t (.tup [v1, v2]) = H2 at *
      refine ⟨_, rfl, m, C, dx, _, _, rfl, s2 _ _ hm, TC.cl, TC.nG, rfl, jnD (a, b), R.gongs.map jnD, .tup (SqT.of et) (.cons (dp_same s2 h1) (.cons (dp_same s2 h2) .nil)), dp_same s2 e2, pair_shaped n1 n2, (sh_jns nR.g).ok (by decide), ?_⟩
      rw [any_jn]
      refine ⟨_, rfl, ?_⟩
      show if decide ((a, b) ∈ R.gongs) = true then _ else _
      by_cases c2 : (a, b) ∈ R.gongs
      · have q2 := q _ s2
        rw [decide_eq_true c2] at q2 ⊢
        exact iteT q2
      · rw [decide_eq_false c2] at q ⊢
        refine iteF ⟨_, rfl, _, rfl, by show 2 ≤ sizeLine; decide, fun u hu => ?_⟩
        have s3 := same_new hu (.tup [v2, v1])
        have eu : upd H2 u (.tup [v2, v1]) u = _ := upd_same
        generalize upd H2 u (.tup [v2, v1]) = H3 at *
        have s23 := s2.trans s3
        refine ⟨_, rfl, m, C, dx, _, _, rfl, s23 _ _ hm, TC.cl, TC.nG, rfl, jnD (b, a), R.gongs.map jnD, .tup (SqT.of eu) (.cons (dp_same s23 h2) (.cons (dp_same s23 h1) .nil)), dp_same s23 e2, pair_shaped n2 n1, (sh_jns nR.g).ok (by decide), ?_⟩
        rw [any_jn]
        exact q _ s23
end
end R0

/-! a loop over a range, within a comprehension: any body -/
namespace Rg
open PySem PySem.Spec PyProof.Rows L2 Hb St Sq
theorem rg_go {lo : Int} {n : Nat} {B : (Hp → Prop) → V → Hp → Prop} {Qd : Hp → Prop} {H0 : Hp} (M : Nat → Hp → Prop) (h0 : M 0 H0) (hs : ∀ (i : Nat) H, i < n → M i H → B (M (i + 1)) (.int (lo + i)) H) (hd : ∀ H, M n H → Qd H) :
    ∃ W : Nat → Nat → Hp → Prop, (∃ m, W 0 m H0) ∧ ∀ i m H, W i m H → ((Itr lo n).stop i H ∧ Qd H) ∨ ((Itr lo n).go i H ∧ ∃ Nx : Hp → Prop, (∀ H', Nx H' → ∃ m', m' < m ∧ W (i + 1) m' H') ∧ ∀ x H', (Itr lo n).yld i H x H' → B Nx x H') := by
  refine ⟨fun i m H => m + i = n ∧ M i H, ⟨n, rfl, h0⟩, fun i m H ⟨e, p⟩ => ?_⟩
  cases m with
  | zero =>
    obtain rfl : i = n := by omega
    exact .inl ⟨Nat.le_refl _, hd H p⟩
  | succ m =>
    refine .inr ⟨by show i < n; omega, M (i + 1), fun H' p' => ⟨m, Nat.lt_succ_self m, by omega, p'⟩, fun v H' y => ?_⟩
    obtain ⟨rfl, rfl⟩ := y
    exact hs i H' (by omega) p
end Rg

namespace R0
open PySem PySem.Spec PyProof.Rows L2 Hb St Sq Ow En Zp RZ Rd Xb Da Wa Tn Rg
/-- the steps of these rooms stand in a list, as tuples of their own -/
def StsAt (H : Hp) (q : Addr) (l : List Stp) : Prop := ∃ xs, H q = some (.lst xs) ∧ All2 (StT H) xs l
theorem StsAt.same {H H' : Hp} {q : Addr} {l : List Stp} (h : StsAt H q l) (s : Same H H') : StsAt H' q l := let ⟨xs, e, a⟩ := h; ⟨xs, s _ _ e, a.imp fun _ _ r => r.same s⟩
theorem stepsR_le (rs : List Rm) (h : ∀ a ∈ rs, a.2.length ≤ 1000) : (stepsR rs).length ≤ 1000 * rs.length := by
  induction rs with
  | nil => exact Nat.le_refl _
  | cons a l ih =>
    have e : stepsR (a :: l) = ((List.range a.2.length).map fun i : Nat => (a.1, ((i : Nat) : Int) + 1)) ++ stepsR l := rfl
    have := h a (List.mem_cons_self ..)
    have := ih fun x hx => h x (List.mem_cons_of_mem _ hx)
    rw [e, List.length_append, List.length_map, List.length_range, List.length_cons]
    omega
section
variable {P : Program} {w : World} {K : PySem.W.Frag} {mg : Str → Option Value} {base : Heap} {C : Addr}
/-! ### steps_of -/
abbrev s_steps_of : Stmt := top 27
theorem sc_steps_of : FnScope ["rooms", "name", "tale", "number"] ["rooms"] (defScope s_steps_of) := ⟨rfl, rfl, rfl, by decide +kernel, rfl, by decide +kernel, by decide +kernel⟩
def spStepsOf (K : PySem.W.Frag) (C : Addr) : Sp := fun vs H Q _ => ∃ (m : Addr) (R : RD), vs = [.ref m] ∧ RoomsAt K C H m R ∧ R.rooms.length ≤ 10 ∧ (∀ a ∈ R.rooms, a.2.length ≤ 1000) ∧ ∀ q H', Same H H' → H q = none → StsAt H' q (stepsR R.rooms) → Q (.ref q) H'
theorem ok_stepsof {f : Addr} {fd : FuncData} (F : Fun K "steps_of" "steps_of" s_steps_of f fd) (TC : RmT K C) (n_len : mg "len" = none) (n_range : mg "range" = none) : FnOk P w K mg base CX0 1 f fd ["rooms"] (spStepsOf K C) := by
  refine F.ok sc_steps_of (fun vs H Q E h => ?_) (fun cdv A outer s H vs Q E hr h => ?_)
  · obtain ⟨_, _, rfl, _⟩ := h
    rfl
  · obtain ⟨m, R, rfl, ⟨dx, r1, r2, r3, hm, e1, e2, e3⟩, k1, k2, q⟩ := h
    refine ⟨_, (pss_one (ps_ret (pe_lc2 (own := [("name", 1), ("tale", 2), ("number", 3)]) (vs1 := [3]) (g := gTup K 2 (gCons (gName 1) (gCons (gName 2) gNil))) (g1 := gName 3) (wi1 := iRng2 (tCons (tC (.int 1)) (tCons (tOp (rI0 fun i j => .int (i + j)) (tCB (rLenK K) (tCons (tVar 2) tNil)) (tC (.int 1))) tNil))) rfl sc_steps_of.nd (pi_seq (pe_fld (pv 0) rfl)) (blkOk_by (N := ["rooms", "name", "tale", "number"]) (sc := defScope s_steps_of) (by decide +kernel)) (by decide) (fun _ _ _ _ _ => pg_tup rfl (pgs_cons (pg_name (i := 1) sc_steps_of.nd rfl (Or.inl rfl)) (pgs_cons (pg_name (i := 2) sc_steps_of.nd rfl (Or.inl rfl)) pgs_nil))) (fun _ _ _ _ _ => pts_nil) (fun _ _ _ _ _ => by exact pi_range2 (by rfl) n_range (pa_cons pe_int (pa_cons (pe_op op_add (pe_callB (id := "len") (r := rLenK K) call_len_seq (by rfl) n_len PySem.boot_len (pa_cons (pv 2) pa_nil)) pe_int) pa_nil))) (fun _ _ _ _ _ => pg_name (i := 3) sc_steps_of.nd rfl (Or.inl rfl)) (fun _ _ _ _ _ => pts_nil) (fun _ _ _ _ _ => pe_tup (pa_cons (pv 1) (pa_cons (pv 3) pa_nil)))))), ?_⟩
    obtain ⟨b, xs, eb, hb, al⟩ := dp_seq e1
    cases eb
    refine ⟨_, rfl, m, C, dx, _, _, rfl, hm, TC.cl, TC.nR, rfl, _, xs, rfl, .inr hb, fun J S W z0 D hD => ?_⟩
    refine wk_go W (fun i H' => Same H H' ∧ ∃ ys, H' D = some (.lst ys) ∧ All2 (StT H') ys (stepsR (R.rooms.take i))) ⟨same_new hD _, [], upd_same, .nil⟩ (fun i H' m => W.keep (fun o e => m.1 _ _ e) z0) (fun i x H' ex hm' => ?_) (fun H' hm' => ?_)
    · obtain ⟨s1, ys, ey, aly⟩ := hm'
      obtain ⟨r, er, hr'⟩ := al.get ex
      obtain ⟨c, vt, rfl, hc, dt⟩ := dp_rm (dp_same s1 hr')
      obtain ⟨tb, ts, rfl, htb, tl⟩ := dp_seq dt
      have lt2 : r.2.length ≤ 1000 := k2 r (at_mem er)
      have lte := tl.len
      refine ⟨c, _, rfl, hc, rfl, _, _, rfl, _, _, rfl, rfl, rfl, _, rfl, tb, ts, rfl, .inr htb, _, _, rfl, rfl, _, _, rfl, ⟨by omega, by omega, by omega, by omega⟩, ?_⟩
      have lyy := aly.len
      have lsm : (stepsR (R.rooms.take i)).length ≤ 1000 * 10 := Nat.le_trans (stepsR_le _ fun a ha => k2 a (List.mem_of_mem_take ha)) (Nat.mul_le_mul_left _ (Nat.le_trans (List.length_take_le' ..) k1))
      refine rg_go (lo := 1) (n := ((ts.length : Int) + 1 - 1).toNat) (fun j G => Kept D H' G ∧ ∃ zs, G D = some (.lst zs) ∧ All2 (StT G) zs (stepsR (R.rooms.take i) ++ (List.range j).map fun i : Nat => (r.1, ((i : Nat) : Int) + 1))) ⟨Kept.refl _ _, ys, ey, by simpa using aly⟩ (fun j G hj hG => ?_) (fun G hG => ?_)
      · obtain ⟨kG, zs, ez, alz⟩ := hG
        have lz := alz.len
        rw [List.length_append, List.length_map, List.length_range] at lz
        have hj : j < ts.length := by omega
        refine ⟨rfl, _, rfl, _, rfl, by show 2 ≤ sizeLine; decide, fun u hu => ?_⟩
        have s5 := same_new hu (.tup [V.str r.1, .int (1 + (j : Int))])
        have ez5 := s5 _ _ ez
        have nu : u ≠ D := (ne_of_none ez hu).symm
        have fx : Fix G (upd (upd G u (.tup [V.str r.1, .int (1 + (j : Int))])) D (.lst (zs ++ [V.ref u]))) := (Fix.of s5).trans (Fix.lst ez5)
        refine ⟨zs, ez5, by rw [sizeLine_eq]; omega, fun b o e n => ?_, zs ++ [V.ref u], upd_same, ?_⟩
        · rw [upd_ne n]
          exact s5 _ _ (kG b o e n)
        · rw [List.range_succ, List.map_append, ← List.append_assoc]
          refine (alz.imp fun _ _ h => h.fix fx).app (.cons ⟨u, rfl, ?_⟩ .nil)
          rw [upd_ne nu, upd_same]
          show some (HO.tup [V.str r.1, V.int (1 + (j : Int))]) = some (HO.tup [V.str r.1, V.int ((j : Int) + 1)])
          rw [Int.add_comm]
      · obtain ⟨kG, zs, ez, alz⟩ := hG
        refine ⟨fun b o e => kG b o (s1 b o e) (ne_of_none e hD), zs, ez, ?_⟩
        rw [List.take_add_one, er, show (some r : Option Rm).toList = [r] from rfl, stepsR_app]
        have e1 : ((ts.length : Int) + 1 - 1).toNat = r.2.length := by omega
        rw [e1] at alz
        exact alz
    · obtain ⟨s1, ys, ey, aly⟩ := hm'
      rw [al.len, List.take_of_length_le (Nat.le_refl _)] at aly
      exact q D H' s1 hD ⟨ys, ey, aly⟩
end
end R0

/-! {k: v for target in iter if ..}, the keys tuples of ints and texts -/
namespace Dc
open PySem PySem.Spec PyProof.Rows L2
theorem put_dT {Y : Cx} {pins : List (Addr × Obj)} {σ : L2.St} {H H' : Hp} {s : Shared} {D : Addr} {y v : V} {u r : Value} {Q : Unit → Shared → Prop} {E : Value → Shared → Prop} (hu : Y.A.units + 1 < cLine) (I : Inv Y pins σ H s)
    {kvs : List (List Key × V)} {k : List Key} {b : Addr} (e : H D = some (.dT kvs)) (ey : y = .ref b) (eb : H b = some (.tup (k.map kV))) (l : kvs.length < sizeLine) (eH : H' = upd H D (.dT (putK kvs k v))) (ry : RelV y u) (rv : RelV v r)
    (h : ∀ s', Inv Y pins σ H' s' → Q () s') : wpAny (model Y.prog Y.w) Y.A (dictSet D u r) Q E s := by
  subst ey eH
  cases (show u = Value.ref b from ry)
  obtain ⟨z, hd, xs, rel, dd⟩ := dt_of I.hok e
  have room : (putK kvs k v).length ≤ sizeLine := by have := length_putK kvs k v; omega
  refine wpAny_dictSet_heap (hsz := by rw [← Paired.length rel]; exact z) (show (tupleKind (mixKind Y.prog Y.w)).room Y.A from by show Y.A.units < cLine; omega) (key_of I.hok eb) dd fun h' dd' hs => h _ ?_
  obtain ⟨o, es, ep, ho, h2, h3, h4, _, h5⟩ := dd'
  refine d_write I (by rw [e]; exact True.intro) hs ⟨o, ho⟩ ⟨room, hd, _, (rel.put k eb rv).keeps fun c ys ec => ?_, o, es, ep, ho, h2, h3, h4, h5⟩
  rw [upd_ne (ne_of ec e (fun z => nomatch z))]
  exact ec
/-- the reading: D the new dict -/
def tDcT (wi : TI) (g : TG) (tt : TT) (tk tv : TE) (vs : List Nat) : TE := fun σ H Q => wi σ H fun J H1 => ∀ D, H1 D = none →
  ∃ W : Nat → Nat → Hp → Prop, (∃ m, W 0 m (upd H1 D (.dT []))) ∧ ∀ i m H, W i m H →
    (J.stop i H ∧ Q (.ref D) H) ∨ (J.go i H ∧ ∃ Nx : Hp → Prop, (∀ H', Nx H' → ∃ m', m' < m ∧ W (i + 1) m' H') ∧ ∀ x H', J.yld i H x H' → g x (wipe σ vs) H' fun σ2 H2 => wipe σ2 vs = wipe σ vs ∧ tt σ2 H2 fun b H3 =>
      if b = true then tk σ2 H3 fun y H4 => tv σ2 H4 fun z H5 => ∃ (kvs : List (List Key × V)) (k : List Key) (c : Addr), y = .ref c ∧ H5 D = some (.dT kvs) ∧ H5 c = some (.tup (k.map kV)) ∧ kvs.length < sizeLine ∧ Nx (upd H5 D (.dT (putK kvs k z))) else Nx H3)
/-- what a block's part is asked of every block -/
abbrev Blk (X : Cx) (scope : Scope) (F : Cx → Prop) : Prop := ∀ (s : Shared) (H : Hp) (C : Addr) (cl : List (Str × Addr)) (fp : List Addr), F (X.blk s H scope (compEnvC scope cl C X.env) fp)
section
variable {X : Cx} {kx vx tg iter : Expr} {ifs : List Expr} {scope : Scope} {own : List (Str × Nat)} {wi : TI} {g : TG} {tt : TT} {tk tv : TE}
theorem pe_dcT {pos : Pos} (hu : X.A.units + 1 < cLine) (hc : X.calm = true) (hN : X.N.Nodup) (hi : PI X tg iter wi) (ok : BlkOk X.N X.env.scope scope own) (hg : Blk X scope fun Y => PG Y tg g) (ht : Blk X scope fun Y => PTs Y ifs tt)
    (hk : Blk X scope fun Y => PE Y kx tk) (he : Blk X scope fun Y => PE Y vx tv) (hs : ∀ x, foldedSetIterable iter X.env x = pure x := by intro _; rfl) :
    PE X (.DictComp kx vx [⟨tg, iter, ifs, 0⟩] scope pos) (tDcT wi g tt tk tv (own.map (·.2))) := by
  refine ⟨fun pins s σ H Q I h => ?_⟩
  rw [arm_eval_DictComp]
  have cells : ∀ y ∈ scope.names, y.2 = .free → ∃ c, X.env.cells.lookup y.1 = some c := fun y hy e => (ok.free y hy e).elim (fun k => I.ok.has _ (.inl k)) fun k => I.ok.has _ (.inr k)
  refine wpAny_comprehension_free rfl hs (closure_ok cells) ok.kind (fun y hy e => by rw [ok.uniq y hy, e]) (thn (hi.run pins s σ H _ I h) fun xv s1 hx => thn hx fun itv s2 ⟨it, fp, tn, J, H2, e, I2, T, st2, f2, q⟩ => ?_)
  subst e
  refine wpAny_newObj_type (newEnv_comp ?_)
  generalize hD : s2.heap.objs.size = D
  have free : H2 D = none := I2.hok.fresh (Nat.le_of_eq hD)
  obtain ⟨W, ⟨m0, w0⟩, turn⟩ := q D free
  generalize hs3 : ({ s2 with heap := s2.heap.push { cls := .type "dict", data := .dict #[] } } : Shared) = s3
  have h3 : s3.heap = s2.heap.push { cls := .type "dict", data := .dict #[] } := by rw [← hs3]
  have I3 : Inv X pins σ (upd H2 D (.dT [])) s3 := by
    subst hs3 hD
    exact I2.laid (t' := s2.toks) (fun b o e => Heap.get?_push_of_some _ e) (Nat.le_refl _) (dt_empty s2.heap I2.big)
  have f3 : ∀ b ∈ fp, FpOk X pins (upd H2 D (.dT [])) b ∧ b < s3.heap.objs.size := fun b hb => by
    obtain ⟨o, eo, _⟩ := T.obj _ _ st2 b hb
    have lt := Heap.lt_size eo
    refine ⟨⟨?_, (f2 b hb).2⟩, by rw [h3, Heap.size_push]; exact Nat.lt_succ_of_lt lt⟩
    rw [upd_ne (by rw [← hD]; exact Nat.ne_of_lt lt)]
    exact (f2 b hb).1
  have st3 : tn 0 s3.heap := T.keep _ _ _ st2 fun b _ o e => by rw [h3]; exact Heap.get?_push_of_some _ e
  have I4 := block_start I3 ok hN f3
  have nfp : ∀ b ∈ fp, (upd H2 D (.dT [])) b = none := fun b hb => (f3 b hb).1.1
  obtain ⟨cl, hcl⟩ : ∃ cl, cellsFrom (s3.heap.objs.size + 1) scope.names (cloFrom X.env.cells scope.names []) = cl := ⟨_, rfl⟩
  show codeAny _ _ (.compStart _ 0 (.ref it) (.ref D) (compEnvC scope (cellsFrom (s3.heap.objs.size + 1) scope.names (cloFrom X.env.cells scope.names [])) s3.heap.objs.size X.env)) (compPost (model X.prog X.w) X.A X.xe none (EP X pins σ Q) (.ref D) s3.heap.objs.size) { s3 with heap := pushCells (s3.heap.push { cls := .type "dict", data := .dict #[] }) scope.names }
  rw [hcl] at I4 ⊢
  have pg := hg s3 (upd H2 D (.dT [])) s3.heap.objs.size cl fp
  have pt := ht s3 (upd H2 D (.dT [])) s3.heap.objs.size cl fp
  have pk := hk s3 (upd H2 D (.dT [])) s3.heap.objs.size cl fp
  have pe := he s3 (upd H2 D (.dT [])) s3.heap.objs.size cl fp
  have cL : (compEnvC scope cl s3.heap.objs.size X.env).locals = s3.heap.objs.size := rfl
  generalize compEnvC scope cl s3.heap.objs.size X.env = ce at I4 pg pt pk pe cL ⊢
  generalize hH3 : upd H2 D (.dT []) = H3 at I3 I4 pg pt pk pe w0 nfp f3
  generalize hs4 : ({ s3 with heap := pushCells (s3.heap.push { cls := .type "dict", data := .dict #[] }) scope.names } : Shared) = s4 at I4 ⊢
  have st4 : tn 0 s4.heap := T.keep _ _ _ st3 fun b _ o e => by subst hs4; exact pushCells_keeps _ _ _ _ (Heap.get?_push_of_some _ e)
  -- the block's own context
  generalize hY : X.blk s3 H3 scope ce fp = Y at I4 pg pt pk pe
  have still : ∀ {σ' : L2.St} {H' : Hp} {s' : Shared}, Inv Y [] σ' H' s' → (∀ b ∈ fp, H' b = none) → ∀ b ∈ fp, FpOk Y [] H' b := fun I' hn b hb => by
    subst hY
    exact ⟨hn b hb, (I'.ok.exf b hb).1, I'.ok.exfs b hb, .inl hb, (I'.ok.exf b hb).2, fun p hp => nomatch (show p ∈ ([] : List (Addr × Obj)) from hp)⟩
  have loop : codeAny (model X.prog X.w) X.A (.compLoop (.DictComp kx vx [⟨tg, iter, ifs, 0⟩] scope pos) 0 (.ref it) (.ref D) ce) (compPost (model X.prog X.w) X.A X.xe none (EP X pins σ Q) (.ref D) s3.heap.objs.size) s4 := by
    refine compLoop_anyD (fun n s' => ∃ i H', Inv Y [] (wipe σ (own.map (·.2))) H' s' ∧ tn i s'.heap ∧ (∀ b ∈ fp, H' b = none) ∧ W i n H') ?_ m0 ⟨0, H3, I4, st4, nfp, w0⟩
    rintro n s5 ⟨i, H5, I5, st5, n5, w5⟩
    subst hY
    rcases turn i n H5 w5 with ⟨stop, qq⟩ | ⟨go, Nx, hNx, step⟩
    · refine thnF (T.done (X.blk s3 H3 scope ce fp) rfl rfl rfl hc i [] s5 _ H5 (fun _ _ => False) I5 (still I5 n5) st5 stop) fun r s6 ⟨hr, I6⟩ => ?_
      subst hr
      have I7 : Inv X pins σ H5 s6 := I3.call' (ch := fp) I6.os I6.base I6.hok I6.bare fun b hb => let ⟨_, a, _, c, d, e⟩ := (f3 b hb).1; ⟨c, a, d, e⟩
      have nC : H5 s3.heap.objs.size = none := by
        rw [← cL]
        exact I6.free
      obtain ⟨m, hn, _⟩ := I6.loc
      rw [show (X.blk s3 H3 scope ce fp).env.locals = s3.heap.objs.size from cL] at hn
      obtain ⟨f0, f1, f2, f3, f4, f5⟩ := I3.fpOk (Nat.le_refl _) nC
      exact ⟨m, hn, fun h'' sb => ⟨.ref D, H5, I7.turned (t' := s6.toks) (fun b o hb e => (sb.2 b hb).trans e) f0 f1 f3 f4 f5, rfl, qq⟩⟩
    · refine thnF (T.item (X.blk s3 H3 scope ce fp) rfl rfl rfl hc i [] s5 _ H5 (fun _ _ => False) I5 (still I5 n5) st5 go) fun r s6 ⟨u, hr, h6⟩ => ?_
      subst hr
      refine thnF h6 fun _ s7 ⟨x, H7, I7, r7, y7, st7, n7⟩ => ?_
      refine thnF (pg.run _ s7 _ H7 x u _ (I7.pinned (still I7 n7) (T.obj _ _ st7)) r7 (step x H7 y7)) fun _ s8 ⟨σ8, H8, I8, hw8, q8⟩ => ?_
      refine thnF (pt.run _ s8 σ8 H8 _ I8 q8) fun b s9 ⟨H9, I9, q9⟩ => ?_
      have next : ∀ {s' : Shared} {H' : Hp}, Inv (X.blk s3 H3 scope ce fp) ([] ++ pinsAt fp s7.heap) σ8 H' s' → Nx H' → ∃ m, m < n ∧ ∃ i H', Inv (X.blk s3 H3 scope ce fp) [] (wipe σ (own.map (·.2))) H' s' ∧ tn i s'.heap ∧ (∀ b ∈ fp, H' b = none) ∧ W i m H' := fun {s' H'} I' nx => by
        obtain ⟨m', lt, w'⟩ := hNx H' nx
        have kept : ∀ b ∈ fp, ∀ o, s7.heap.get? b = some o → s'.heap.get? b = some o ∧ H' b = none := fun b hb o e => by
          have z := I'.pin (b, o) (List.mem_append_right _ (List.mem_append_right _ (mem_pinsAt hb e)))
          exact ⟨z.1, z.2.1⟩
        refine ⟨m', lt, i + 1, H', (I'.unpinned (pins := [])).weak (by rw [← hw8, wipe_length]) (fun j v e => (wipe_some (hw8.symm ▸ e)).1), T.keep _ _ _ st7 fun b hb o e => (kept b hb o e).1, fun b hb => ?_, w'⟩
        obtain ⟨o, e, _⟩ := T.obj _ _ st7 b hb
        exact (kept b hb o e).2
      cases b with
      | false => exact next I9 q9
      | true =>
        refine thnF (pk.run _ s9 σ8 H9 _ I9 q9) fun z s10 ⟨yk, H10, I10, r10, q10⟩ => ?_
        refine thnF (pe.run _ s10 σ8 H10 _ I10 q10) fun z2 s11 ⟨yv, H11, I11, r11, kvs, k, c, ek, hD11, hc11, hz11, nx⟩ => ?_
        exact put_dT (Y := X.blk s3 H3 scope ce fp) hu I11 hD11 ek hc11 hz11 rfl r10 r11 fun s12 I12 => next I12 nx
  exact codeAny_compStart_dict loop (T.self X.A 0 _ _ _ st4 loop)
end
end Dc

namespace R0
open PySem PySem.Spec PyProof.Rows L2 Hb St Sq Ow En Zp RZ Rd Xb Da Wa Tn Rg Dc
theorem pi_seqK {X : Cx} {K : PySem.W.Frag} {tg l : Expr} {tl : TE} (hK : X.K = K) (hl : PE X l tl) : PI X tg l (iSeq K tl) := by
  subst hK
  exact pi_seq hl
theorem put_newT {kvs : List (List Key × V)} {k : List Key} {z : V} (h : k ∉ kvs.map (·.1)) : putK kvs k z = kvs ++ [(k, z)] := by
  unfold putK
  rw [if_neg]
  intro e
  obtain ⟨p, hp, e⟩ := List.any_eq_true.mp e
  exact h (List.mem_map.mpr ⟨p, hp, of_decide_eq_true e⟩)
/-- what a step leads to, as the dict holds it -/
def LdKv (H : Hp) (L : Stp → List Stp) (kv : List Key × V) (s : Stp) : Prop := kv.1 = stK s ∧ ∃ a, kv.2 = .ref a ∧ StsAt H a (L s)
/-- the dict of what each step leads to -/
def LdAt (H : Hp) (d : Addr) (S : List Stp) (L : Stp → List Stp) : Prop := ∃ kvs, L2.Rd H d (.dT kvs) ∧ All2 (LdKv H L) kvs S
theorem StT.kept {H H' : Hp} {D : Addr} {v : V} {s : Stp} (h : StT H v s) (k : Kept D H H') (n : ∀ xs, H D ≠ some (.tup xs)) : StT H' v s := by
  obtain ⟨b, e, t⟩ := h
  exact ⟨b, e, k _ _ t fun z => n _ (z ▸ t)⟩
theorem StsAt.kept {H H' : Hp} {D a : Addr} {l : List Stp} (h : StsAt H a l) (k : Kept D H H') (n : ∀ xs, H D ≠ some (.tup xs)) (m : ∀ xs, H D ≠ some (.lst xs)) : StsAt H' a l := by
  obtain ⟨xs, e, al⟩ := h
  exact ⟨xs, k _ _ e fun z => m _ (z ▸ e), al.imp fun _ _ r => r.kept k n⟩
theorem lead_keys {H : Hp} {L : Stp → List Stp} : ∀ {kvs : List (List Key × V)} {l : List Stp}, All2 (LdKv H L) kvs l → kvs.map (·.1) = l.map stK
  | _, _, .nil => rfl
  | _, _, .cons h t => by rw [List.map_cons, List.map_cons, h.1, lead_keys t]
section
variable {P : Program} {w : World} {K : PySem.W.Frag} {mg : Str → Option Value} {base : Heap} {C : Addr}
/-! ### leads_of -/
abbrev s_leads_of : Stmt := top 30
theorem sc_leads_of : FnScope ["rooms", "steps", "one", "other"] ["rooms"] (defScope s_leads_of) := ⟨rfl, rfl, rfl, by decide +kernel, rfl, by decide +kernel, by decide +kernel⟩
def leadsF (R : RD) (s : Stp) : List Stp := (stepsR R.rooms).filter (leadB R s)
def spLeads (K : PySem.W.Frag) (C : Addr) : Sp := fun vs H Q _ => ∃ (m : Addr) (R : RD), vs = [.ref m] ∧ RoomsAt K C H m R ∧ RNm R ∧ R.rooms.length ≤ 10 ∧ (∀ a ∈ R.rooms, a.2.length ≤ 1000) ∧ (stepsR R.rooms).Nodup ∧ (∀ s ∈ stepsR R.rooms, IsNm s.1) ∧
  ∀ d H', Same H H' → H d = none → (∃ kvs, H' d = some (.dT kvs) ∧ All2 (LdKv H' (leadsF R)) kvs (stepsR R.rooms)) → Q (.ref d) H'
theorem ok_leadsof {f : Addr} {fd : FuncData} (F : Fun K "leads_of" "leads_of" s_leads_of f fd) (C_is_leading : Cl P w K mg base "is_leading" ["rooms", "one", "other"] [] 2 (spLead K C)) (C_steps_of : Cl P w K mg base "steps_of" ["rooms"] [] 1 (spStepsOf K C)) : FnOk P w K mg base CX0 3 f fd ["rooms"] (spLeads K C) := by
  refine F.ok sc_leads_of (fun vs H Q E h => ?_) (fun cdv A outer s H vs Q E hr h => ?_)
  · obtain ⟨_, _, rfl, _⟩ := h
    rfl
  · obtain ⟨m, R, rfl, rm, nR, k1, k2, nd, nmS, q⟩ := h
    refine ⟨_, (pss_cons (ps_set (i := 1) sc_leads_of.nd rfl (Or.inr rfl) (pe_use C_steps_of (hr.mono (by decide)) rfl (pa_cons (pv 0) pa_nil)))
    (pss_one (ps_ret (pe_dcT (own := [("one", 2)]) (g := gName 2) (hu_of hr) rfl sc_leads_of.nd (pi_seq (pv 1)) (blkOk_by (N := ["rooms", "steps", "one", "other"]) (sc := defScope s_leads_of) (by decide +kernel)) (fun _ _ _ _ _ => pg_name (i := 2) sc_leads_of.nd rfl (Or.inr rfl)) (fun _ _ _ _ _ => pts_nil) (fun _ _ _ _ _ => pv 2) (fun _ _ _ _ _ => pe_lc (own := [("other", 3)]) (g := gName 3) rfl sc_leads_of.nd (pi_seqK (K := K) rfl (pv 1)) (blkOk_by (N := ["rooms", "steps", "one", "other"]) (sc := { kind := .function, names := [((".0" : Str), .local), (("one" : Str), .cell), (("rooms" : Str), .cell), (("steps" : Str), .cell)], isGenerator := false, isCoroutine := false }) (by decide +kernel)) (fun _ _ _ _ _ => pg_name (i := 3) sc_leads_of.nd rfl (Or.inl rfl)) (fun _ _ _ _ _ => pts_one (pt_val (pe_use C_is_leading (hr.mono (by decide)) rfl (pa_cons (pv 0) (pa_cons (pv 2) (pa_cons (pv 3) pa_nil)))))) (fun _ _ _ _ _ => pv 3)))))), ?_⟩
    refine ⟨_, rfl, m, R, rfl, rm, k1, k2, fun sp H1 s1 hsp sts => ?_⟩
    obtain ⟨xs, exs, al⟩ := sts
    have lsm : (stepsR R.rooms).length ≤ 1000 * 10 := Nat.le_trans (stepsR_le _ k2) (Nat.mul_le_mul_left _ k1)
    have lal := al.len
    refine ⟨_, rfl, sp, xs, rfl, SqX.lst exs, fun J S W z0 D hD => ?_⟩
    refine wk_go W (fun i H' => Same H1 H' ∧ ∃ kvs, H' D = some (.dT kvs) ∧ All2 (LdKv H' (leadsF R)) kvs ((stepsR R.rooms).take i)) ⟨same_new hD _, [], upd_same, .nil⟩ (fun i H' m => W.keep (fun o e => m.1 _ _ e) z0) (fun i x H' ex hm' => ?_) (fun H' hm' => ?_)
    · obtain ⟨s2, kvs, ek, alk⟩ := hm'
      obtain ⟨st, est, hst⟩ := al.get ex
      have hst2 := hst.same s2
      obtain ⟨b, rfl, hb⟩ := id hst2
      refine ⟨rfl, _, rfl, _, rfl, sp, xs, rfl, SqX.lst (s2 _ _ exs), fun J2 S2 W2 z2 D2 hD2 => ?_⟩
      refine lc_mf (ds := stepsR R.rooms) W2 (fun t => leadB R st t) (fun H y t => StT H y t) z2 hD2 lal (fun j y t H3 ey et s3 mf => ?_) (fun H3 ys s3 e3 al3 => ?_)
      · obtain ⟨t', et', ht'⟩ := al.get ey
        obtain rfl := Option.some.inj (et'.symm.trans et)
        have s13 := s2.trans s3
        refine ⟨rfl, _, rfl, _, rfl, _, rfl, m, .ref b, y, st, t', R, rfl, (rm.same s1).same s13, nR, (hst.same s13).dp, (ht'.same s13).dp, nmS _ (at_mem est), nmS _ (at_mem et), fun H4 s4 => ⟨_, rfl, ?_⟩⟩
        cases c : leadB R st t' with
        | true => exact iteT ⟨_, rfl, mf_yes mf hD2 (fun _ _ _ _ f h => h.fix f) et (by omega) s4 c ((ht'.same s13).same s4)⟩
        | false => exact iteF (mf_no mf (fun _ _ _ _ f h => h.fix f) et s4 c)
      · have ek3 := s3 _ _ ek
        have nD : D2 ≠ D := fun z => by rw [z, ek] at hD2; cases hD2
        have kl := alk.len
        have kk := lead_keys alk
        refine ⟨kvs, stK st, b, rfl, ek3, s3 _ _ hb, by rw [sizeLine_eq, kl]; have := List.length_take_le' i (stepsR R.rooms); omega, fun c o e => ?_, kvs ++ [(stK st, .ref D2)], ?_, ?_⟩
        · rw [upd_ne (ne_of_none e hD)]
          exact s3 _ _ (s2 _ _ e)
        · rw [upd_same, put_newT]
          rw [kk]
          intro h
          obtain ⟨u, hu, e⟩ := List.mem_map.mp h
          obtain rfl := stK_inj e
          obtain ⟨hi, e1⟩ := List.getElem?_eq_some_iff.mp est
          have := List.take_append_drop i (stepsR R.rooms)
          rw [List.drop_eq_getElem_cons hi, e1] at this
          rw [← this, List.nodup_append] at nd
          exact nd.2.2 _ hu u (by simp) rfl
        · have kD : Kept D H3 (upd H3 D (.dT (putK kvs (stK st) (.ref D2)))) := fun c o e n => by rw [upd_ne n]; exact e
          have n1 : ∀ zs, H3 D ≠ some (.tup zs) := fun zs z => by rw [ek3] at z; cases z
          have n2 : ∀ zs, H3 D ≠ some (.lst zs) := fun zs z => by rw [ek3] at z; cases z
          rw [List.take_add_one, est]
          refine (alk.imp fun kv u ⟨h1, a, h2, h3⟩ => ⟨h1, a, h2, (h3.same s3).kept kD n1 n2⟩).app (.cons ⟨rfl, D2, rfl, ?_⟩ .nil)
          exact StsAt.kept ⟨ys, e3, al3⟩ kD n1 n2
    · obtain ⟨s2, kvs, ek, alk⟩ := hm'
      rw [lal, List.take_of_length_le (Nat.le_refl _)] at alk
      exact q D H' (s1.trans s2) (none_back s1 hD) ⟨kvs, ek, alk⟩
end
end R0

/-! roads in a graph: walks, least walks, levels -/
namespace Mr
section
variable {α : Type} (L : α → List α)
/-- a walk of n edges -/
def Wn : Nat → α → α → Prop
  | 0, a, b => a = b
  | n + 1, a, b => ∃ c, Wn n a c ∧ b ∈ L c
/-- n is the least number of edges -/
def Dist (a b : α) (n : Nat) : Prop := Wn L n a b ∧ ∀ j, j < n → ¬ Wn L j a b
variable {L}
theorem Dist.uniq {a b : α} {n m : Nat} (h : Dist L a b n) (k : Dist L a b m) : n = m := by
  rcases Nat.lt_trichotomy n m with c | c | c
  · exact (k.2 n c h.1).elim
  · exact c
  · exact (h.2 m c k.1).elim
theorem dist_of {a b : α} : ∀ n, Wn L n a b → ∃ m, m ≤ n ∧ Dist L a b m := by
  intro n
  induction n using Nat.strongRecOn with
  | ind n ih =>
    intro h
    by_cases c : ∃ j, j < n ∧ Wn L j a b
    · obtain ⟨j, hj, w⟩ := c
      obtain ⟨m, hm, d⟩ := ih j hj w
      exact ⟨m, by omega, d⟩
    · exact ⟨n, Nat.le_refl _, h, fun j hj w => c ⟨j, hj, w⟩⟩
theorem Dist.prev {a b : α} {n : Nat} (h : Dist L a b (n + 1)) : ∃ c, Dist L a c n ∧ b ∈ L c := by
  obtain ⟨c, w, m⟩ := h.1
  exact ⟨c, ⟨w, fun j hj k => h.2 (j + 1) (by omega) ⟨c, k, m⟩⟩, m⟩
theorem Dist.zero (a : α) : Dist L a a 0 := ⟨rfl, fun _ h => (Nat.not_lt_zero _ h).elim⟩
theorem wn_in {S : List α} (hL : ∀ s ∈ S, ∀ t ∈ L s, t ∈ S) {a b : α} (ha : a ∈ S) : ∀ {n}, Wn L n a b → b ∈ S := by
  intro n
  induction n generalizing b with
  | zero => intro h; exact (show a = b from h) ▸ ha
  | succ n ih => intro ⟨c, w, m⟩; exact hL c (ih w) b m
theorem wn_add {a b c : α} {n : Nat} (h : Wn L n a b) : ∀ {m}, Wn L m b c → Wn L (n + m) a c := by
  intro m
  induction m generalizing c with
  | zero => intro k; exact (show b = c from k) ▸ h
  | succ m ih => intro ⟨d, w, e⟩; exact ⟨d, ih w, e⟩
theorem wn_cons {a b c : α} (h : b ∈ L a) {n : Nat} (w : Wn L n b c) : Wn L (n + 1) a c := by
  have := wn_add (n := 1) (m := n) (⟨a, rfl, h⟩ : Wn L 1 a b) w
  rwa [Nat.add_comm] at this
/-- what is known of the levels up to the k-th: A all nodes met, lv those of the k-th level -/
structure Lev (L : α → List α) (a : α) (k : Nat) (A lv : List α) : Prop where
  met : ∀ s, s ∈ A ↔ ∃ j, j ≤ k ∧ Wn L j a s
  lev : ∀ s, s ∈ lv ↔ Dist L a s k
theorem Lev.start (a : α) : Lev L a 0 [a] [a] := by
  refine ⟨fun s => ?_, fun s => ?_⟩
  · rw [List.mem_singleton]
    exact ⟨fun h => ⟨0, Nat.le_refl _, h.symm⟩, fun ⟨j, hj, w⟩ => by obtain rfl := Nat.le_zero.mp hj; exact (show a = s from w).symm⟩
  · rw [List.mem_singleton]
    exact ⟨fun h => h ▸ Dist.zero s, fun h => (show a = s from h.1).symm⟩
theorem Lev.next {a : α} {k : Nat} {A lv nw : List α} (h : Lev L a k A lv) (hn : ∀ s, s ∈ nw ↔ s ∉ A ∧ ∃ p ∈ lv, s ∈ L p) : Lev L a (k + 1) (A ++ nw) nw := by
  have lev : ∀ s, s ∈ nw ↔ Dist L a s (k + 1) := fun s => by
    rw [hn s]
    constructor
    · rintro ⟨h1, p, hp, m⟩
      exact ⟨⟨p, ((h.lev p).mp hp).1, m⟩, fun j hj w => h1 ((h.met s).mpr ⟨j, by omega, w⟩)⟩
    · intro d
      obtain ⟨p, dp, m⟩ := d.prev
      exact ⟨fun z => by obtain ⟨j, hj, w⟩ := (h.met s).mp z; exact d.2 j (by omega) w, p, (h.lev p).mpr dp, m⟩
  refine ⟨fun s => ?_, lev⟩
  rw [List.mem_append, h.met s, lev s]
  constructor
  · rintro (⟨j, hj, w⟩ | d)
    · exact ⟨j, by omega, w⟩
    · exact ⟨k + 1, Nat.le_refl _, d.1⟩
  · rintro ⟨j, hj, w⟩
    obtain ⟨m, hm, d⟩ := dist_of j w
    rcases Nat.lt_or_ge k m with c | c
    · obtain rfl : m = k + 1 := by omega
      exact .inr d
    · exact .inl ⟨m, c, d.1⟩
theorem Lev.ended {a b : α} {k : Nat} {A : List α} (h : Lev L a k A []) (hb : b ∉ A) (n : Nat) : ¬ Wn L n a b := fun w => by
  obtain ⟨m, _, d⟩ := dist_of n w
  have deep : ∀ m b, Dist L a b m → k ≤ m → False := by
    intro m
    induction m with
    | zero =>
      intro b d hk
      obtain rfl : k = 0 := by omega
      exact nomatch (h.lev b).mpr d
    | succ m ih =>
      intro b d hk
      rcases Nat.lt_or_ge m k with c | c
      · obtain rfl : k = m + 1 := by omega
        exact nomatch (h.lev b).mpr d
      · obtain ⟨c', dc, _⟩ := d.prev
        exact ih c' dc c
  rcases Nat.lt_or_ge m k with c | c
  · exact hb ((h.met b).mpr ⟨m, by omega, d.1⟩)
  · exact deep m b d c
/-- a parent in the levels -/
def Par (L : α → List α) (a : α) (s p : α) : Prop := ∃ n, Dist L a p n ∧ Dist L a s (n + 1) ∧ s ∈ L p
theorem Lev.par {a s p : α} {k : Nat} {A lv : List α} (h : Lev L a k A lv) (hs : s ∉ A) (hp : p ∈ lv) (m : s ∈ L p) : Par L a s p :=
  ⟨k, (h.lev p).mp hp, ⟨⟨p, ((h.lev p).mp hp).1, m⟩, fun j hj w => hs ((h.met s).mpr ⟨j, by omega, w⟩)⟩, m⟩
/-- a road of fewest edges -/
structure IsRoad (L : α → List α) (a b : α) (rs : List α) : Prop where
  ex : ∃ N, rs.length = N + 1 ∧ Dist L a b N ∧ rs[N]? = some b
  at_ : ∀ i x, rs[i]? = some x → Dist L a x i
  step : ∀ i x y, rs[i]? = some x → rs[i + 1]? = some y → y ∈ L x
theorem IsRoad.nodup {a b : α} {rs : List α} (h : IsRoad L a b rs) : rs.Nodup := by
  rw [List.nodup_iff_pairwise_ne, List.pairwise_iff_getElem]
  intro i j hi hj lt e
  have h1 := h.at_ i _ (List.getElem?_eq_getElem hi)
  have h2 := h.at_ j _ (List.getElem?_eq_getElem hj)
  rw [e] at h1
  have := h1.uniq h2
  omega
/-- the road as it is written from behind -/
structure Back (L : α → List α) (a b : α) (N : Nat) (q : List α) : Prop where
  fst : q[0]? = some b
  at_ : ∀ i x, q[i]? = some x → i ≤ N ∧ Dist L a x (N - i)
  step : ∀ i x y, q[i]? = some x → q[i + 1]? = some y → x ∈ L y
theorem Back.start {a b : α} {N : Nat} (h : Dist L a b N) : Back L a b N [b] := by
  refine ⟨rfl, fun i x e => ?_, fun i x y _ e => nomatch e⟩
  cases i with
  | zero => obtain rfl : b = x := Option.some.inj e; exact ⟨Nat.zero_le _, h⟩
  | succ i => cases e
theorem Back.more {a b x p : α} {N : Nat} {q : List α} (h : Back L a b N (q ++ [x])) (hp : Par L a x p) : Back L a b N (q ++ [x] ++ [p]) := by
  obtain ⟨n, d1, d2, m⟩ := hp
  have hx := h.at_ q.length x (by simp)
  have en := hx.2.uniq d2
  refine ⟨?_, fun i y e => ?_, fun i y z e1 e2 => ?_⟩
  · rw [List.getElem?_append_left (by simp)]; exact h.fst
  · rcases Nat.lt_or_ge i (q.length + 1) with c | c
    · rw [List.getElem?_append_left (by simpa using c)] at e
      exact h.at_ i y e
    · have hi : i = q.length + 1 := by
        have := (List.getElem?_eq_some_iff.mp e).1
        simp at this
        omega
      subst hi
      rw [List.getElem?_append_right (by simp)] at e
      simp at e
      subst e
      refine ⟨by omega, ?_⟩
      rw [show N - (q.length + 1) = n from by omega]
      exact d1
  · rcases Nat.lt_or_ge (i + 1) (q.length + 1) with c | c
    · rw [List.getElem?_append_left (by simpa using c)] at e2
      rw [List.getElem?_append_left (by simp; omega)] at e1
      exact h.step i y z e1 e2
    · have hi : i = q.length := by
        have := (List.getElem?_eq_some_iff.mp e2).1
        simp at this
        omega
      subst hi
      rw [List.getElem?_append_left (by simp)] at e1
      rw [List.getElem?_append_right (by simp)] at e2
      simp at e1 e2
      subst e1 e2
      exact m
theorem Back.nodup {a b : α} {N : Nat} {q : List α} (h : Back L a b N q) : q.Nodup := by
  rw [List.nodup_iff_pairwise_ne, List.pairwise_iff_getElem]
  intro i j hi hj lt e
  obtain ⟨l1, h1⟩ := h.at_ i _ (List.getElem?_eq_getElem hi)
  obtain ⟨l2, h2⟩ := h.at_ j _ (List.getElem?_eq_getElem hj)
  rw [e] at h1
  have := h1.uniq h2
  omega
theorem Back.road {a b : α} {N : Nat} {q : List α} (h : Back L a b N (q ++ [a])) : IsRoad L a b (q ++ [a]).reverse := by
  have ha := h.at_ q.length a (by simp)
  have e0 := ha.2.uniq (Dist.zero a)
  have eN : q.length = N := by omega
  have flip : ∀ i x, (q ++ [a]).reverse[i]? = some x → i ≤ N ∧ (q ++ [a])[N - i]? = some x := fun i x e => by
    have hi : i < (q ++ [a]).length := by have := (List.getElem?_eq_some_iff.mp e).1; rwa [List.length_reverse] at this
    rw [List.getElem?_reverse hi] at e
    have l1 : (q ++ [a]).length = N + 1 := by simp [eN]
    rw [l1] at e hi
    exact ⟨by omega, by rw [show N - i = N + 1 - 1 - i from by omega]; exact e⟩
  refine ⟨⟨N, by simp [eN], (h.at_ 0 b h.fst).2, ?_⟩, fun i x e => ?_, fun i x y e1 e2 => ?_⟩
  · rw [List.getElem?_reverse (by simp [eN])]
    simp only [List.length_append, List.length_singleton, eN]
    rw [show N + 1 - 1 - N = 0 from by omega]
    exact h.fst
  · obtain ⟨hi, e⟩ := flip i x e
    have := (h.at_ _ _ e).2
    rwa [show N - (N - i) = i from by omega] at this
  · obtain ⟨h1, e1⟩ := flip i x e1
    obtain ⟨h2, e2⟩ := flip (i + 1) y e2
    exact h.step (N - (i + 1)) y x e2 (by rw [show N - (i + 1) + 1 = N - i from by omega]; exact e1)
end
end Mr

namespace R0
open PySem PySem.Spec PyProof.Rows L2 Hb St Sq Ow En Zp RZ Rd Xb Da Wa Tn Rg Dc Mr
theorem val_hit {R : List Key × V → Stp → Prop} (hR : ∀ kv s, R kv s → kv.1 = stK s) : ∀ {kvs : List (List Key × V)} {l : List Stp} {s : Stp}, All2 R kvs l → s ∈ l → ∃ v, valV kvs (stK s) = some v ∧ R (stK s, v) s
  | _, _, s, .cons (a := kv) (b := u) h t, hs => by
    obtain ⟨k, v⟩ := kv
    obtain rfl : k = stK u := hR _ _ h
    by_cases c : u = s
    · subst c
      exact ⟨v, valV_pos rfl, h⟩
    · rcases List.mem_cons.mp hs with e | hs
      · exact (c e.symm).elim
      · obtain ⟨v', e, r⟩ := val_hit hR t hs
        exact ⟨v', by rw [valV_neg fun z => c (stK_inj z)]; exact e, r⟩
theorem val_miss {R : List Key × V → Stp → Prop} (hR : ∀ kv s, R kv s → kv.1 = stK s) : ∀ {kvs : List (List Key × V)} {l : List Stp} {s : Stp}, All2 R kvs l → s ∉ l → valV kvs (stK s) = none
  | _, _, s, .nil, _ => rfl
  | _, _, s, .cons (a := kv) (b := u) h t, hs => by
    obtain ⟨k, v⟩ := kv
    obtain rfl : k = stK u := hR _ _ h
    have hne : ¬ stK u = stK s := fun z => hs (by rw [← stK_inj z]; exact List.mem_cons_self ..)
    rw [valV_neg (p := (stK u, v)) hne]
    exact val_miss hR t fun m => hs (List.mem_cons_of_mem _ m)
theorem rdSame {H H' : Hp} {a : Addr} {o : HO} (h : L2.Rd H a o) (s : Same H H') : L2.Rd H' a o := h.elim (fun e => .inl (s _ _ e)) fun ⟨x, e⟩ => .inr ⟨x, s _ _ e⟩
theorem LdAt.same {H H' : Hp} {d : Addr} {S : List Stp} {L : Stp → List Stp} (h : LdAt H d S L) (s : Same H H') : LdAt H' d S L := by
  obtain ⟨kvs, e, al⟩ := h
  exact ⟨kvs, rdSame e s, al.imp fun _ _ ⟨h1, a, h2, h3⟩ => ⟨h1, a, h2, h3.same s⟩⟩
theorem LdAt.get {H : Hp} {d b : Addr} {S : List Stp} {L : Stp → List Stp} (h : LdAt H d S L) {s : Stp} (hs : s ∈ S) (hb : H b = some (.tup [.str s.1, .int s.2])) : ∃ a, DGet H d (.ref b) (some (.ref a)) ∧ StsAt H a (L s) := by
  obtain ⟨kvs, e, al⟩ := h
  obtain ⟨v, e1, _, a, e2, h3⟩ := val_hit (fun _ _ r => r.1) al hs
  exact ⟨a, .inr ⟨kvs, stK s, b, e, rfl, hb, by rw [e1]; exact congrArg some e2.symm⟩, h3⟩
theorem LdAt.adj {H : Hp} {d : Addr} {S : List Stp} {L : Stp → List Stp} (h : LdAt H d S L) {s : Stp} (hs : s ∈ S) : ∃ a, StsAt H a (L s) ∧ ∀ H' b, Same H H' → H' b = some (.tup [.str s.1, .int s.2]) → DGet H' d (.ref b) (some (.ref a)) := by
  obtain ⟨kvs, e, al⟩ := h
  obtain ⟨v, e1, _, a, e2, h3⟩ := val_hit (fun _ _ r => r.1) al hs
  exact ⟨a, h3, fun H' b k hb => .inr ⟨kvs, stK s, b, rdSame e k, rfl, hb, by rw [e1]; exact congrArg some e2.symm⟩⟩
/-- the dict of the steps met, each with the one that led there -/
def AhR (H : Hp) (L : Stp → List Stp) (a : Stp) (kv : List Key × V) (s : Stp) : Prop := kv.1 = stK s ∧ ((s = a ∧ kv.2 = .non) ∨ ∃ p, StT H kv.2 p ∧ Par L a s p)
theorem AhR.fix {H H' : Hp} {L : Stp → List Stp} {a : Stp} {kv : List Key × V} {s : Stp} (h : AhR H L a kv s) (f : Fix H H') : AhR H' L a kv s := ⟨h.1, h.2.imp id fun ⟨p, t, r⟩ => ⟨p, t.fix f, r⟩⟩
theorem all2_rev {α β : Type} {R : α → β → Prop} {xs : List α} {ys : List β} (h : All2 R xs ys) : All2 R xs.reverse ys.reverse := by
  induction h with
  | nil => exact .nil
  | cons r _ ih => rw [List.reverse_cons, List.reverse_cons]; exact ih.app (.cons r .nil)
theorem nd_leS : ∀ (m l : List Stp), m.Nodup → (∀ x ∈ m, x ∈ l) → m.length ≤ l.length
  | [], _, _, _ => Nat.zero_le _
  | x :: m, l, nd, h => by
    have hx := h x List.mem_cons_self
    obtain ⟨h1, h2⟩ := List.nodup_cons.mp nd
    have := nd_leS m (l.erase x) h2 fun y hy => (List.mem_erase_of_ne (fun e => h1 (by rw [← e]; exact hy))).mpr (h y (List.mem_cons_of_mem _ hy))
    rw [List.length_erase_of_mem hx] at this
    have := List.length_pos_of_mem hx
    rw [List.length_cons]; omega
section
variable {P : Program} {w : World} {K : PySem.W.Frag} {mg : Str → Option Value} {base : Heap} {C : Addr}
/-! ### shortest_road -/
abbrev s_shortest_road : Stmt := top 31
theorem sc_shortest_road : FnScope ["leads", "one", "other", "ahead", "level", "behind", "step", "led", "road"] ["leads", "one", "other"] (defScope s_shortest_road) := ⟨rfl, rfl, rfl, by decide +kernel, rfl, by decide +kernel, by decide +kernel⟩
def spRoad (K : PySem.W.Frag) : Sp := fun vs H Q _ => ∃ (d : Addr) (v1 v2 : V) (S : List Stp) (L : Stp → List Stp) (a b : Stp), vs = [.ref d, v1, v2] ∧ LdAt H d S L ∧ StT H v1 a ∧ StT H v2 b ∧ a ∈ S ∧ S.Nodup ∧ S.length ≤ 10000 ∧ (∀ s ∈ S, ∀ t ∈ L s, t ∈ S) ∧ (∀ s ∈ S, (L s).Nodup) ∧ (∀ s ∈ S, IsNm s.1) ∧ IsNm b.1 ∧
  (∀ H', Same H H' → (∀ n, ¬ Wn L n a b) → Q .non H') ∧ ∀ q xs H' rs, Same H H' → H q = none → H' q = some (.tup xs) → All2 (StT H') xs rs → IsRoad L a b rs → Q (.ref q) H'
theorem ok_road {f : Addr} {fd : FuncData} (F : Fun K "shortest_road" "shortest_road" s_shortest_road f fd) (n_tuple : mg "tuple" = none) : FnOk P w K mg base CX0 1 f fd ["leads", "one", "other"] (spRoad K) := by
  refine F.ok sc_shortest_road (fun vs H Q E h => ?_) (fun cdv A outer s H vs Q E hr h => ?_)
  · obtain ⟨_, _, _, _, _, _, _, rfl, _⟩ := h
    rfl
  · obtain ⟨d, v1, v2, S, L, a, b, rfl, ld, t1, t2, aS, nd, lS, hL, nL, nmS, nmb, qn, qr⟩ := h
    refine ⟨_, (pss_cons (ps_set (i := 3) sc_shortest_road.nd rfl (Or.inl rfl) (pe_disp1T (hu_of hr) (pv 1) pe_non))
    (pss_cons (ps_set (i := 4) sc_shortest_road.nd rfl (Or.inl rfl) (pe_lst (pa_cons (pv 1) pa_nil)))
    (Evl.pss_cut (ps_while PassesOwn.never (PW.pt (pw_and (pt_truth (pv 4) (by intro _; rfl)) (pw_and1 (pt_cmp (pc_dnotin (hu_of hr) (pv 2) (pv 3))))))
      (pss_cons (ps_set (i := 5) sc_shortest_road.nd rfl (Or.inl rfl) (pe_lst pa_nil))
    (Evl.pss_cut (ps_for PassesOwn.never rfl (pi_seq (pv 4)) (pg_name (i := 6) sc_shortest_road.nd rfl (Or.inl rfl))
      (pss_one (ps_for PassesOwn.never rfl (pi_seq (pe_dget (hu_of hr) (pv 0) (pv 6) (fun _ _ => rfl))) (pg_name (i := 7) sc_shortest_road.nd rfl (Or.inl rfl))
      (pss_one (ps_if (pt_cmp (pc_dnotin (hu_of hr) (pv 7) (pv 3))) (pss_cons (ps_dput (hu_of hr) (pv 3) (pv 7) (pv 6) rfl)
    (pss_one (ps_expr (pe_bm PySem.F.plainAttrs_list PySem.F.slot_list_append PySem.F.type_list_append mt_append (pv 5) (pa_cons (pv 7) pa_nil))))) pss_nil)))))
    (pss_one (ps_set (i := 4) sc_shortest_road.nd rfl (Or.inl rfl) (pv 5))))))
    (Evl.pss_cut (ps_if (pt_cmp (pc_dnotin (hu_of hr) (pv 2) (pv 3))) (pss_one (ps_ret pe_non)) pss_nil)
    (pss_cons (ps_set (i := 8) sc_shortest_road.nd rfl (Or.inl rfl) (pe_lst (pa_cons (pv 2) pa_nil)))
    (Evl.pss_cut (ps_while PassesOwn.never (pt_cmpR (op_neD hr.units) (pe_ix ix_list (pv 8) (pe_un un_neg pe_int) (fun _ _ => rfl)) (pv 1) (nomark _))
      (pss_one (ps_expr (pe_bm PySem.F.plainAttrs_list PySem.F.slot_list_append PySem.F.type_list_append mt_append (pv 8) (pa_cons (pe_dget (hu_of hr) (pv 3) (pe_ix ix_list (pv 8) (pe_un un_neg pe_int) (fun _ _ => rfl)) (fun _ _ => rfl)) pa_nil)))))
    (pss_one (ps_ret (pe_callTy call_tuple_of (by rfl) n_tuple (by decide +kernel) (pa_cons (pe_revK K (pv 8) (pe_un un_neg pe_int) (fun _ _ _ q => ⟨1, rfl, q⟩)) pa_nil)))))))))), ?_⟩
    obtain ⟨pa, rfl, ha⟩ := id t1
    obtain ⟨pb, rfl, hb⟩ := id t2
    refine fun ad had => ⟨_, rfl, upd_same, stK a, pa, rfl, by rw [upd_ne (ne_of_none ha had)]; exact ha, ?_⟩
    have s1 : Same H (upd (upd H ad (.dT [])) ad (.dT [(stK a, .non)])) := fun c o e => by rw [upd_ne (ne_of_none e had), upd_ne (ne_of_none e had)]; exact e
    have e1 : upd (upd H ad (.dT [])) ad (.dT [(stK a, .non)]) ad = some (.dT [(stK a, .non)]) := upd_same
    generalize upd (upd H ad (.dT [])) ad (.dT [(stK a, .non)]) = H1 at s1 e1 ⊢
    refine ⟨_, rfl, by show 1 ≤ sizeLine; decide, fun lv0 hlv0 => ?_⟩
    have s2 := same_new hlv0 (.lst [V.ref pa])
    have e2 : upd H1 lv0 (.lst [V.ref pa]) lv0 = some (.lst [V.ref pa]) := upd_same
    generalize upd H1 lv0 (.lst [V.ref pa]) = H2 at s2 e2 ⊢
    refine ⟨fun σ H' => ∃ lvl o5 o6 o7 A kvs, σ = [some (.ref d), some (.ref pa), some (.ref pb), some (.ref ad), some (.ref lvl), o5, o6, o7, none] ∧ Same H H' ∧ H' ad = some (.dT kvs) ∧ All2 (AhR H' L a) kvs A ∧ ((b ∈ A ∧ ∃ N, Dist L a b N ∧ ∀ s n, n ≤ N → Dist L a s n → s ∈ A) ∨ (b ∉ A ∧ ∀ n, ¬ Wn L n a b)), ?_, ?_⟩
    · refine ⟨fun m σ H' => ∃ lvl o5 o6 o7 k A lv kvs ys, σ = [some (.ref d), some (.ref pa), some (.ref pb), some (.ref ad), some (.ref lvl), o5, o6, o7, none] ∧ Same H H' ∧ H' ad = some (.dT kvs) ∧ All2 (AhR H' L a) kvs A ∧ H' lvl = some (.lst ys) ∧ All2 (StT H') ys lv ∧ Lev L a k A lv ∧ A.Nodup ∧ (∀ s ∈ A, s ∈ S) ∧ m = 2 * (S.length - A.length) + (if lv = [] then 0 else 1),
        ⟨_, lv0, none, none, none, 0, [a], [a], _, _, rfl, s1.trans s2, s2 _ _ e1, .cons ⟨rfl, .inl ⟨rfl, rfl⟩⟩ .nil, e2, .cons ((t1.same s1).same s2) .nil, Lev.start a, by simp, fun s hs => by rw [List.mem_singleton.mp hs]; exact aS, rfl⟩, ?_⟩
      rintro m σ H3 ⟨lvl, o5, o6, o7, k, A, lv, kvs, ys, rfl, s3, ea, ala, el, all, lev, ndA, hA, rfl⟩
      have lal := ala.len
      have lll := all.len
      have leA : A.length ≤ S.length := nd_leS A S ndA hA
      have hb3 := s3 _ _ hb
      refine ⟨_, rfl, _, .inl ⟨ys, SqL.of el, rfl⟩, ?_⟩
      cases lv with
      | nil =>
        cases all
        refine iteF ⟨lvl, o5, o6, o7, A, kvs, rfl, s3, ea, ala, ?_⟩
        by_cases c : b ∈ A
        · obtain ⟨j, jk, w⟩ := (lev.met b).mp c
          obtain ⟨N, jN, dN⟩ := dist_of j w
          exact .inl ⟨c, N, dN, fun s n hn ds => (lev.met s).mpr ⟨n, by omega, ds.1⟩⟩
        · exact .inr ⟨c, fun n => lev.ended c n⟩
      | cons l0 lr =>
        have ne : (!ys.isEmpty) = true := by cases all; rfl
        rw [ne]
        refine iteT ⟨_, rfl, _, rfl, ad, _, rfl, DGet.t (k := stK b) ea hb3, _, rfl, ?_⟩
        by_cases c : b ∈ A
        · obtain ⟨v, ev, _⟩ := val_hit (fun _ _ r => r.1) ala c
          rw [ev]
          obtain ⟨j, jk, w⟩ := (lev.met b).mp c
          obtain ⟨N, jN, dN⟩ := dist_of j w
          exact iteF ⟨lvl, o5, o6, o7, A, kvs, rfl, s3, ea, ala, .inl ⟨c, N, dN, fun s n hn ds => (lev.met s).mpr ⟨n, by omega, ds.1⟩⟩⟩
        rw [val_miss (fun _ _ r => r.1) ala c]
        refine iteT ⟨_, fun _ _ h => h, ?_⟩
        refine ⟨by show 0 ≤ sizeLine; decide, fun bh hbh => ?_⟩
        have s4 := same_new hbh (.lst [])
        have eb4 : upd H3 bh (.lst []) bh = some (.lst []) := upd_same
        have nba : bh ≠ ad := fun z => by rw [z, ea] at hbh; cases hbh
        have nbl : bh ≠ lvl := fun z => by rw [z, el] at hbh; cases hbh
        have nal : lvl ≠ ad := fun z => by rw [z, ea] at el; cases el
        have hbh0 : H bh = none := none_back s3 hbh
        have ea4 := s4 _ _ ea
        have el4 := s4 _ _ el
        have ala4 := ala.imp fun _ _ r => AhR.fix r (Fix.of s4)
        have all4 := all.imp fun _ _ r => StT.same r s4
        have s04 := s3.trans s4
        generalize upd H3 bh (.lst []) = H4 at s4 eb4 ea4 el4 ala4 all4 s04 ⊢
        have hLS : ∀ x ∈ l0 :: lr, x ∈ S := fun x hx => by
          obtain ⟨w, _⟩ := (lev.lev x).mp hx
          exact wn_in hL aS w
        refine ⟨fun σ H' => ∃ o6 o7 nw zs kvs', σ = [some (.ref d), some (.ref pa), some (.ref pb), some (.ref ad), some (.ref lvl), some (.ref bh), o6, o7, none] ∧ Same H H' ∧ H' ad = some (.dT kvs') ∧ All2 (AhR H' L a) kvs' (A ++ nw) ∧ H' bh = some (.lst zs) ∧ All2 (StT H') zs nw ∧ (A ++ nw).Nodup ∧ ∀ s, s ∈ nw ↔ s ∉ A ∧ ∃ p ∈ l0 :: lr, s ∈ L p, ?_, ?_⟩
        · refine ⟨_, rfl, lvl, ys, rfl, SqX.lst el4, fun J SS W z0 => ?_⟩
          refine for_sq W (fun i σ H' => ∃ o6 o7 nw zs kvs', σ = [some (.ref d), some (.ref pa), some (.ref pb), some (.ref ad), some (.ref lvl), some (.ref bh), o6, o7, none] ∧ Same H H' ∧ H' ad = some (.dT kvs') ∧ All2 (AhR H' L a) kvs' (A ++ nw) ∧ H' lvl = some (.lst ys) ∧ All2 (StT H') ys (l0 :: lr) ∧ H' bh = some (.lst zs) ∧ All2 (StT H') zs nw ∧ (A ++ nw).Nodup ∧ ∀ s, s ∈ nw ↔ s ∉ A ∧ ∃ p ∈ (l0 :: lr).take i, s ∈ L p)
            ⟨o6, o7, [], [], kvs, rfl, s04, ea4, by simpa using ala4, el4, all4, eb4, .nil, by simpa using ndA, fun s => by simp⟩ (fun i σ H' pv => ?_) ?_ ?_
          · obtain ⟨_, _, _, _, _, _, _, _, _, e, _⟩ := pv
            exact W.keep (fun o e' => by rw [el4] at e'; rw [e]; exact e') z0
          · rintro i σ H5 y ey ⟨o6, o7, nw, zs, kvs', rfl, s5, ea5, ala5, el5, all5, eb5, alb5, nd5, mem5⟩
            obtain ⟨p, ep, tp⟩ := all5.get ey
            obtain ⟨bp, rfl, hbp⟩ := id tp
            have pS := hLS p (at_mem ep)
            obtain ⟨la, ⟨xs, exs0, alx0⟩, dgF⟩ := ld.adj pS
            have dg := dgF _ _ s5 hbp
            have exs := s5 _ _ exs0
            have alx := alx0.imp fun _ _ r => StT.same r s5
            refine ⟨_, rfl, _, rfl, d, _, rfl, dg, la, xs, rfl, SqX.lst exs, fun J2 SS2 W2 z2 => ?_⟩
            have nlb : la ≠ bh := ne_of_none exs0 hbh0
            have nla : la ≠ ad := ne_of_none exs0 had
            have lls : (L p).length ≤ S.length := nd_leS _ _ (nL p pS) (hL p pS)
            refine for_sq W2 (fun j σ H' => ∃ o7 nw zs kvs', σ = [some (.ref d), some (.ref pa), some (.ref pb), some (.ref ad), some (.ref lvl), some (.ref bh), some (.ref bp), o7, none] ∧ Same H H' ∧ H' ad = some (.dT kvs') ∧ All2 (AhR H' L a) kvs' (A ++ nw) ∧ H' lvl = some (.lst ys) ∧ All2 (StT H') ys (l0 :: lr) ∧ H' bp = some (.tup [.str p.1, .int p.2]) ∧ H' la = some (.lst xs) ∧ All2 (StT H') xs (L p) ∧ H' bh = some (.lst zs) ∧ All2 (StT H') zs nw ∧ (A ++ nw).Nodup ∧ ∀ s, s ∈ nw ↔ s ∉ A ∧ ((∃ p ∈ (l0 :: lr).take i, s ∈ L p) ∨ s ∈ (L p).take j))
              ⟨o7, nw, zs, kvs', rfl, s5, ea5, ala5, el5, all5, hbp, exs, alx, eb5, alb5, nd5, fun s => by rw [mem5 s]; simp⟩ (fun j σ H' pv => ?_) ?_ ?_
            · obtain ⟨_, _, _, _, _, _, _, _, _, _, _, e, _⟩ := pv
              exact W2.keep (fun o e' => by rw [exs] at e'; rw [e]; exact e') z2
            · rintro j σ H6 y2 ey2 ⟨o7, nw, zs, kvs', rfl, s6, ea6, ala6, el6, all6, hbp6, exs6, alx6, eb6, alb6, nd6, mem6⟩
              obtain ⟨t, et, tt⟩ := alx6.get ey2
              obtain ⟨bt, rfl, hbt⟩ := id tt
              refine ⟨_, rfl, _, rfl, ad, _, rfl, DGet.t (k := stK t) ea6 hbt, _, rfl, ?_⟩
              have tk : ∀ s, s ∈ (L p).take (j + 1) ↔ s ∈ (L p).take j ∨ s = t := fun s => by rw [List.take_add_one, et, List.mem_append]; simp
              have tS : t ∈ S := hL p pS t (at_mem et)
              by_cases c2 : t ∈ A ++ nw
              · obtain ⟨v, ev, _⟩ := val_hit (fun _ _ r => r.1) ala6 c2
                rw [ev]
                refine iteF ⟨_, nw, zs, kvs', rfl, s6, ea6, ala6, el6, all6, hbp6, exs6, alx6, eb6, alb6, nd6, fun s => ?_⟩
                rw [mem6 s, tk s]
                constructor
                · rintro ⟨h1, h2⟩
                  exact ⟨h1, h2.imp id .inl⟩
                · rintro ⟨h1, h2 | h2 | rfl⟩
                  · exact ⟨h1, .inl h2⟩
                  · exact ⟨h1, .inr h2⟩
                  · rcases List.mem_append.mp c2 with z | z
                    · exact (h1 z).elim
                    · exact (mem6 s).mp z
              · have mi := val_miss (fun _ _ r => r.1) ala6 c2
                rw [mi]
                have c3 := fun z => c2 (List.mem_append_left _ z)
                have lkv := ala6.len
                have lbs := alb6.len
                have sub : ∀ s ∈ A ++ nw, s ∈ S := fun s hs => by
                  rcases List.mem_append.mp hs with z | z
                  · exact hA s z
                  · obtain ⟨_, h2⟩ := (mem6 s).mp z
                    rcases h2 with ⟨q, hq, m⟩ | m
                    · exact hL q (hLS q (List.mem_of_mem_take hq)) s m
                    · exact hL p pS s (List.mem_of_mem_take m)
                have lsub := nd_leS _ _ nd6 sub
                rw [List.length_append] at lsub lkv
                have f7 : Fix H6 (upd H6 ad (.dT (putK kvs' (stK t) (.ref bp)))) := Fix.dT ea6
                have eb7 : upd H6 ad (.dT (putK kvs' (stK t) (.ref bp))) bh = some (.lst zs) := by rw [upd_ne nba]; exact eb6
                have f8 : Fix (upd H6 ad (.dT (putK kvs' (stK t) (.ref bp)))) (upd (upd H6 ad (.dT (putK kvs' (stK t) (.ref bp)))) bh (.lst (zs ++ [.ref bt]))) := Fix.lst eb7
                have f := f7.trans f8
                refine iteT ⟨_, rfl, _, rfl, _, rfl, ad, _, rfl, DPut.t (k := stK t) ea6 hbt (by rw [lkv, sizeLine_eq]; omega), ⟨_, rfl, .inl ⟨rfl, _, SqL.of eb7⟩, _, rfl, bh, zs, _, rfl, rfl, eb7, by rw [lbs, sizeLine_eq]; omega, ?_⟩⟩
                have sN : Same H (upd (upd H6 ad (.dT (putK kvs' (stK t) (.ref bp)))) bh (.lst (zs ++ [.ref bt]))) := fun c o e => by
                  rw [upd_ne (ne_of_none e hbh0), upd_ne (ne_of_none e had)]
                  exact s6 _ _ e
                have par : Par L a t p := lev.par c3 (at_mem ep) (at_mem et)
                have bt8 := tt.fix f
                refine ⟨_, nw ++ [t], zs ++ [.ref bt], kvs' ++ [(stK t, .ref bp)], rfl, sN, by rw [upd_ne nba.symm, upd_same, putK_new _ mi], ?_, by rw [upd_ne nbl.symm, upd_ne nal]; exact el6, all6.imp fun _ _ r => r.fix f, f _ _ hbp6 (fun z => by rcases z with ⟨_, z⟩ | ⟨_, z⟩ <;> cases z), by rw [upd_ne nlb, upd_ne nla]; exact exs6, alx6.imp fun _ _ r => r.fix f, upd_same, (alb6.imp fun _ _ r => r.fix f).app (.cons bt8 .nil), ?_, fun s => ?_⟩
                · rw [← List.append_assoc]
                  exact (ala6.imp fun _ _ r => r.fix f).app (.cons ⟨rfl, .inr ⟨p, StT.fix ⟨bp, rfl, hbp6⟩ f, par⟩⟩ .nil)
                · rw [← List.append_assoc, List.nodup_append]
                  exact ⟨nd6, by simp, fun x hx y hy => by rw [List.mem_singleton.mp hy]; exact fun z => c2 (z ▸ hx)⟩
                · rw [List.mem_append, List.mem_singleton, mem6 s, tk s]
                  constructor
                  · rintro (⟨h1, h2⟩ | rfl)
                    · exact ⟨h1, h2.imp id .inl⟩
                    · exact ⟨c3, .inr (.inr rfl)⟩
                  · rintro ⟨h1, h2 | h2 | rfl⟩
                    · exact .inl ⟨h1, .inl h2⟩
                    · exact .inl ⟨h1, .inr h2⟩
                    · exact .inr rfl
            · rintro σ H6 ⟨o7, nw, zs, kvs', rfl, s6, ea6, ala6, el6, all6, hbp6, exs6, alx6, eb6, alb6, nd6, mem6⟩
              refine ⟨some (.ref bp), o7, nw, zs, kvs', rfl, s6, ea6, ala6, el6, all6, eb6, alb6, nd6, fun s => ?_⟩
              rw [mem6 s, alx6.len, List.take_of_length_le (Nat.le_refl _), List.take_add_one, ep]
              simp [or_and_right, exists_or]
          · rintro σ H5 ⟨o6, o7, nw, zs, kvs', rfl, s5, ea5, ala5, el5, all5, eb5, alb5, nd5, mem5⟩
            rw [lll, List.take_of_length_le (Nat.le_refl _)] at mem5
            exact ⟨o6, o7, nw, zs, kvs', rfl, s5, ea5, ala5, eb5, alb5, nd5, mem5⟩
        · rintro σ H5 ⟨o6, o7, nw, zs, kvs', rfl, s5, ea5, ala5, eb5, alb5, nd5, mem5⟩
          have lv1 : Lev L a (k + 1) (A ++ nw) nw := lev.next mem5
          have sub : ∀ s ∈ A ++ nw, s ∈ S := fun s hs => by
            obtain ⟨j, _, w⟩ := (lv1.met s).mp hs
            exact wn_in hL aS w
          have le1 := nd_leS _ _ nd5 sub
          rw [List.length_append] at le1
          refine ⟨_, rfl, _, ?_, bh, some (.ref bh), o6, o7, k + 1, A ++ nw, nw, kvs', zs, rfl, s5, ea5, ala5, eb5, alb5, lv1, nd5, sub, rfl⟩
          rw [List.length_append]
          cases nw with
          | nil => simp
          | cons n0 nr =>
            simp only [List.length_cons, List.cons_ne_nil, reduceCtorEq, if_false, reduceIte] at le1 ⊢
            omega
    · rintro σ H3 ⟨lvl, o5, o6, o7, A, kvs, rfl, s3, ea, ala, hb'⟩
      have hb3 := s3 _ _ hb
      have ha3 := s3 _ _ ha
      rcases hb' with ⟨bA, N, dN, deep⟩ | ⟨bA, no⟩
      · refine ⟨fun σ H' => σ = [some (.ref d), some (.ref pa), some (.ref pb), some (.ref ad), some (.ref lvl), o5, o6, o7, none] ∧ H' = H3, ⟨_, rfl, _, rfl, ad, _, rfl, DGet.t (k := stK b) ea hb3, _, rfl, ?_⟩, ?_⟩
        · obtain ⟨v, ev, _⟩ := val_hit (fun _ _ r => r.1) ala bA
          rw [ev]
          exact iteF ⟨rfl, rfl⟩
        rintro σ H' ⟨rfl, rfl⟩
        refine ⟨_, rfl, by show 1 ≤ sizeLine; decide, fun rl hrl => ?_⟩
        have s4 := same_new hrl (.lst [V.ref pb])
        have er4 : upd H' rl (.lst [V.ref pb]) rl = some (.lst [V.ref pb]) := upd_same
        have nra : rl ≠ ad := fun z => by rw [z, ea] at hrl; cases hrl
        have hrl0 := none_back s3 hrl
        have ea4 := s4 _ _ ea
        have ala4 := ala.imp fun _ _ r => AhR.fix r (Fix.of s4)
        have s04 := s3.trans s4
        generalize upd H' rl (.lst [V.ref pb]) = H4 at s4 er4 ea4 ala4 s04 ⊢
        refine ⟨fun σ H' => ∃ q xs, σ = [some (.ref d), some (.ref pa), some (.ref pb), some (.ref ad), some (.ref lvl), o5, o6, o7, some (.ref rl)] ∧ Same H H' ∧ H' rl = some (.lst xs) ∧ All2 (StT H') xs (q ++ [a]) ∧ Back L a b N (q ++ [a]), ?_, ?_⟩
        · refine ⟨fun m σ H' => ∃ q x xs vx, σ = [some (.ref d), some (.ref pa), some (.ref pb), some (.ref ad), some (.ref lvl), o5, o6, o7, some (.ref rl)] ∧ Same H H' ∧ H' ad = some (.dT kvs) ∧ All2 (AhR H' L a) kvs A ∧ H' rl = some (.lst (xs ++ [vx])) ∧ All2 (StT H') xs q ∧ StT H' vx x ∧ Back L a b N (q ++ [x]) ∧ m = N - q.length,
            ⟨_, [], b, [], .ref pb, rfl, s04, ea4, ala4, er4, .nil, ((t2.same s3).same s4), Back.start dN, rfl⟩, ?_⟩
          rintro m σ H5 ⟨q, x, xs, vx, rfl, s5, ea5, ala5, er5, alq, tx, bk, rfl⟩
          have hx := bk.at_ q.length x (by simp)
          have xS : x ∈ S := wn_in hL aS hx.2.1
          have shx : SeqAt.shaped (stD x) = true := (sh_st (nmS x xS)).ok (by decide)
          have sha : SeqAt.shaped (stD a) = true := (sh_st (nmS a aS)).ok (by decide)
          refine ⟨_, rfl, 1, rfl, rl, _, _, _, rfl, rfl, SqL.of er5, at_last, _, rfl, stD x, stD a, tx.dp, (t1.same s5).dp, shx, sha, ⟨_, rfl, ?_⟩⟩
          rw [eqv_st]
          by_cases c : x = a
          · subst c
            rw [decide_eq_true rfl]
            exact iteF ⟨q, _, rfl, s5, er5, alq.app (.cons tx .nil), bk⟩
          · rw [decide_eq_false c]
            refine iteT ⟨_, fun _ _ h => h, ?_⟩
            obtain ⟨bx, rfl, hbx⟩ := id tx
            have xA : x ∈ A := deep x _ (Nat.sub_le _ _) hx.2
            obtain ⟨v, ev, _, hv⟩ := val_hit (fun _ _ r => r.1) ala5 xA
            rcases hv with ⟨z, _⟩ | ⟨p, tp, par⟩
            · exact (c z).elim
            have lq := alq.len
            have bk2 := bk.more par
            have hp := bk2.at_ (q.length + 1) p (by simp)
            have dg : DGet H5 ad (.ref bx) (some v) := by
              have := DGet.t (k := stK x) ea5 hbx
              rwa [ev] at this
            have lb := nd_leS _ S bk.nodup fun y hy => by
              obtain ⟨i, hi, e⟩ := List.mem_iff_getElem.mp hy
              exact wn_in hL aS (bk.at_ i y (by rw [← e]; exact List.getElem?_eq_getElem hi)).2.1
            rw [List.length_append, List.length_singleton] at lb
            have tx5 : StT H5 (.ref bx) x := ⟨bx, rfl, hbx⟩
            have f : Fix H5 (upd H5 rl (.lst (xs ++ [.ref bx] ++ [v]))) := Fix.lst er5
            refine ⟨_, rfl, .inl ⟨rfl, _, SqL.of er5⟩, _, rfl, _, rfl, 1, rfl, rl, _, _, _, rfl, rfl, SqL.of er5, at_last, ad, v, rfl, dg, rl, _, _, rfl, rfl, er5, by rw [List.length_append, sizeLine_eq]; simp; omega, N - (q.length + 1), by omega, q ++ [x], p, xs ++ [.ref bx], v, rfl, fun c o e => ?_, ?_, ala5.imp fun _ _ r => AhR.fix r f, upd_same, (alq.imp fun _ _ r => StT.fix r f).app (.cons (tx5.fix f) .nil), tp.fix f, bk2, by rw [List.length_append]; rfl⟩
            · rw [upd_ne (ne_of_none e hrl0)]
              exact s5 _ _ e
            · rw [upd_ne nra.symm]
              exact ea5
        · rintro σ H5 ⟨q, xs, rfl, s5, er5, alq, bk⟩
          refine ⟨_, rfl, rl, _, rfl, SqL.of er5, fun u hu => ?_⟩
          have s6 := same_new hu (.lst xs.reverse)
          have e6 : upd H5 u (.lst xs.reverse) u = _ := upd_same
          refine ⟨u, _, rfl, .inl ⟨SqL.of e6, fun t ht => ?_⟩⟩
          have s7 := same_new ht (.tup xs.reverse)
          refine qr t xs.reverse _ _ ((s5.trans s6).trans s7) (none_back (s5.trans s6) ht) upd_same ((all2_rev alq).imp fun _ _ r => (StT.same r s6).same s7) bk.road
      · refine ⟨fun _ _ => False, ⟨_, rfl, _, rfl, ad, _, rfl, DGet.t (k := stK b) ea hb3, _, rfl, ?_⟩, fun _ _ h => h.elim⟩
        rw [val_miss (fun _ _ r => r.1) ala bA]
        exact iteT (qn H3 s3 no)
end
end R0

namespace R0
open PySem PySem.Spec PyProof.Rows L2 Hb St Sq Ow En Zp RZ Rd Xb Da Wa Tn Rg Dc Mr
/-! ### the least road among the ends of some pairs -/
def Least (L : Stp → List Stp) (Pr : Stp → Stp → Prop) : Option (List Stp) → Prop
  | none => ∀ a b, Pr a b → ∀ n, ¬ Wn L n b a
  | some rs => (∃ a b, Pr a b ∧ IsRoad L b a rs) ∧ ∀ a b, Pr a b → ∀ n, Wn L n b a → rs.length ≤ n + 1
theorem Least.congr {L : Stp → List Stp} {Pr Pr' : Stp → Stp → Prop} (h : ∀ a b, Pr a b ↔ Pr' a b) {o : Option (List Stp)} (l : Least L Pr o) : Least L Pr' o := by
  cases o with
  | none => exact fun a b p => l a b ((h a b).mpr p)
  | some rs =>
    obtain ⟨⟨a, b, p, r⟩, m⟩ := l
    exact ⟨⟨a, b, (h a b).mp p, r⟩, fun a b p => m a b ((h a b).mpr p)⟩
/-- what is told of one pair -/
def Road1 (L : Stp → List Stp) (a b : Stp) : Option (List Stp) → Prop
  | none => ∀ n, ¬ Wn L n b a
  | some rs => IsRoad L b a rs
theorem road_min {L : Stp → List Stp} {a b : Stp} {rs : List Stp} (h : IsRoad L b a rs) {n : Nat} (w : Wn L n b a) : rs.length ≤ n + 1 := by
  obtain ⟨N, l, d, _⟩ := h.ex
  rcases Nat.lt_or_ge n N with c | c
  · exact (d.2 n c w).elim
  · omega
/-- the pairs with one more -/
def More (Pr : Stp → Stp → Prop) (a b : Stp) (x y : Stp) : Prop := Pr x y ∨ (x = a ∧ y = b)
theorem Least.keep {L : Stp → List Stp} {Pr : Stp → Stp → Prop} {a b : Stp} {o o' : Option (List Stp)} (l : Least L Pr o) (r : Road1 L a b o') (h : ∀ rs', o' = some rs' → ∃ rs, o = some rs ∧ rs.length ≤ rs'.length) : Least L (More Pr a b) o := by
  cases o' with
  | none =>
    cases o with
    | none => exact fun x y p => p.elim (l x y) fun ⟨ex, ey⟩ => by rw [ex, ey]; exact r
    | some rs =>
      obtain ⟨⟨u, v, p, q⟩, m⟩ := l
      exact ⟨⟨u, v, .inl p, q⟩, fun x y p => p.elim (m x y) fun ⟨ex, ey⟩ n w => by rw [ex, ey] at w; exact (r n w).elim⟩
  | some rs' =>
    obtain ⟨rs, e, le⟩ := h rs' rfl
    subst e
    obtain ⟨⟨u, v, p, q⟩, m⟩ := l
    refine ⟨⟨u, v, .inl p, q⟩, fun x y p => p.elim (m x y) fun ⟨ex, ey⟩ n w => ?_⟩
    rw [ex, ey] at w
    exact Nat.le_trans le (road_min r w)
theorem Least.take {L : Stp → List Stp} {Pr : Stp → Stp → Prop} {a b : Stp} {o : Option (List Stp)} {rs' : List Stp} (l : Least L Pr o) (r : IsRoad L b a rs') (h : ∀ rs, o = some rs → rs'.length ≤ rs.length) : Least L (More Pr a b) (some rs') := by
  refine ⟨⟨a, b, .inr ⟨rfl, rfl⟩, r⟩, fun x y p n w => ?_⟩
  rcases p with p | ⟨ex, ey⟩
  · cases o with
    | none => exact (l x y p n w).elim
    | some rs => exact Nat.le_trans (h rs rfl) (l.2 x y p n w)
  · rw [ex, ey] at w
    exact road_min r w
/-- None, or a tuple of steps -/
def ORoad (H : Hp) (v : V) : Option (List Stp) → Prop
  | none => v = .non
  | some rs => ∃ q xs, v = .ref q ∧ H q = some (.tup xs) ∧ All2 (StT H) xs rs
theorem ORoad.same {H H' : Hp} {v : V} {o : Option (List Stp)} (h : ORoad H v o) (s : Same H H') : ORoad H' v o := by
  cases o with
  | none => exact h
  | some rs => obtain ⟨q, xs, e, t, a⟩ := h; exact ⟨q, xs, e, s _ _ t, a.imp fun _ _ r => r.same s⟩
theorem ORoad.len {K : PySem.W.Frag} {H : Hp} {v : V} {rs : List Stp} (h : ORoad H v (some rs)) : ∃ q xs, v = .ref q ∧ SqT K H q xs ∧ xs.length = rs.length := by
  obtain ⟨q, xs, e, t, a⟩ := h
  exact ⟨q, xs, e, SqT.of t, a.len⟩
theorem RoomsAt.fix {K : PySem.W.Frag} {C : Addr} {H H' : Hp} {m : Addr} {R : RD} (h : RoomsAt K C H m R) (f : Fix H H') : RoomsAt K C H' m R := by
  obtain ⟨dx, r1, r2, r3, hm, e1, e2, e3⟩ := h
  exact ⟨dx, r1, r2, r3, f _ _ hm (fun z => by rcases z with ⟨_, z⟩ | ⟨_, z⟩ <;> cases z), dp_fix f (by simp only [noL]; exact noLs_map noL_rm _) e1, dp_fix f (by simp only [noL]; exact noLs_map noL_jn _) e2, dp_fix f (by simp only [noL]; exact noLs_map noL_jn _) e3⟩
theorem lockT_same {H H' : Hp} {p : Addr} {o : Obj} {u : HO} (e : H p = some u) (s : Same (upd H p (.frz o u)) H') : Same H (upd H' p u) := by
  intro b x hx
  by_cases c : b = p
  · subst c; rw [e] at hx; cases hx; exact upd_same
  · rw [upd_ne c]; exact s b x (by rw [upd_ne c]; exact hx)
theorem stepsR_le100 (rs : List Rm) (h : ∀ a ∈ rs, a.2.length ≤ 100) : (stepsR rs).length ≤ 100 * rs.length := by
  induction rs with
  | nil => exact Nat.le_refl _
  | cons a l ih =>
    have e : stepsR (a :: l) = ((List.range a.2.length).map fun i : Nat => (a.1, ((i : Nat) : Int) + 1)) ++ stepsR l := rfl
    have := h a (List.mem_cons_self ..)
    have := ih fun x hx => h x (List.mem_cons_of_mem _ hx)
    rw [e, List.length_append, List.length_map, List.length_range, List.length_cons]
    omega
theorem stepsR_nm {rs : List Rm} (h : ∀ a ∈ rs, IsNm a.1) : ∀ s ∈ stepsR rs, IsNm s.1 := nm_step h
section
variable {P : Program} {w : World} {K : PySem.W.Frag} {mg : Str → Option Value} {base : Heap} {C : Addr}
/-! ### join_circle -/
abbrev s_join_circle : Stmt := top 32
theorem sc_join_circle : FnScope ["rooms", "leads", "least", "one", "other", "road"] ["rooms"] (defScope s_join_circle) := ⟨rfl, rfl, rfl, by decide +kernel, rfl, by decide +kernel, by decide +kernel⟩
/-- the pairs that a circle can close with -/
def PrC (R : RD) (a b : Stp) : Prop := a ∈ stepsR R.rooms ∧ b ∈ stepsR R.rooms ∧ aheadB R a b = true
/-- what is kept of rooms that a graph is made of -/
structure RGr (R : RD) : Prop where
  nm : RNm R
  k1 : R.rooms.length ≤ 10
  k2 : ∀ a ∈ R.rooms, a.2.length ≤ 100
  nd : (stepsR R.rooms).Nodup
theorem RGr.isn {R : RD} (h : RGr R) : ∀ s ∈ stepsR R.rooms, IsNm s.1 := nm_step fun a ha => (h.nm.r a ha).1
def spCirc (K : PySem.W.Frag) (C : Addr) : Sp := fun vs H Q _ => ∃ (m : Addr) (R : RD), vs = [.ref m] ∧ RoomsAt K C H m R ∧ RGr R ∧ ∀ v H' o, Same H H' → ORoad H' v o → Least (leadsF R) (PrC R) o → Q v H'
theorem ok_joinc {f : Addr} {fd : FuncData} (F : Fun K "join_circle" "join_circle" s_join_circle f fd) (C_is_ahead : Cl P w K mg base "is_ahead" ["rooms", "one", "other"] [] 1 (spAhead K C)) (C_leads_of : Cl P w K mg base "leads_of" ["rooms"] [] 3 (spLeads K C)) (C_shortest_road : Cl P w K mg base "shortest_road" ["leads", "one", "other"] [] 1 (spRoad K)) (n_len : mg "len" = none) : FnOk P w K mg base CX0 4 f fd ["rooms"] (spCirc K C) := by
  refine F.ok sc_join_circle (fun vs H Q E h => ?_) (fun cdv A outer s H vs Q E hr h => ?_)
  · obtain ⟨_, _, rfl, _⟩ := h
    rfl
  · obtain ⟨m, R, rfl, rm, gr, q⟩ := h
    refine ⟨_, (pss_cons (ps_set (i := 1) sc_join_circle.nd rfl (Or.inl rfl) (pe_use C_leads_of (hr.mono (by decide)) rfl (pa_cons (pv 0) pa_nil)))
    (pss_cons (ps_set (i := 2) sc_join_circle.nd rfl (Or.inl rfl) pe_non)
    (Evl.pss_cut (ps_lock <| ps_for PassesOwn.never rfl (pi_keys (pv 1)) (pg_name (i := 3) sc_join_circle.nd rfl (Or.inl rfl))
      (pss_one (ps_for PassesOwn.never rfl (pi_seq (pe_dget (hu_of hr) (pv 1) (pv 3) (fun _ _ => rfl))) (pg_name (i := 4) sc_join_circle.nd rfl (Or.inl rfl))
      (Evl.pss_cut (ps_set (i := 5) sc_join_circle.nd rfl (Or.inl rfl) (pe_ifExp (pt_val (pe_use C_is_ahead (hr.mono (by decide)) rfl (pa_cons (pv 0) (pa_cons (pv 3) (pa_cons (pv 4) pa_nil))))) (pe_use C_shortest_road (hr.mono (by decide)) rfl (pa_cons (pv 1) (pa_cons (pv 4) (pa_cons (pv 3) pa_nil)))) pe_non))
    (pss_one (ps_if (PW.pt (pw_and (pt_cmpR op_notN (pv 5) pe_non (nomark _)) (pw_and1 (PW.pt (pw_or (pt_cmpR op_isN (pv 2) pe_non (nomark _)) (pw_or1 (pt_cmpR op_lt (pe_callB call_len_seq (by rfl) n_len PySem.boot_len (pa_cons (pv 5) pa_nil)) (pe_callB call_len_seq (by rfl) n_len PySem.boot_len (pa_cons (pv 2) pa_nil)) (nomark _)))))))) (pss_one (ps_set (i := 2) sc_join_circle.nd rfl (Or.inl rfl) (pv 5))) pss_nil))))))
    (pss_one (ps_ret (pv 2)))))), ?_⟩
    have k2' : ∀ a ∈ R.rooms, a.2.length ≤ 1000 := fun a ha => Nat.le_trans (gr.k2 a ha) (by decide)
    have lS : (stepsR R.rooms).length ≤ 100 * 10 := Nat.le_trans (stepsR_le100 _ gr.k2) (Nat.mul_le_mul_left _ gr.k1)
    refine ⟨_, rfl, m, R, rfl, rm, gr.nm, gr.k1, k2', gr.nd, gr.isn, fun d H1 s1 hd ⟨kvs, ek, alk⟩ => ?_⟩
    have lal := alk.len
    have keyK := lead_keys alk
    have inS : ∀ s ∈ stepsR R.rooms, ∀ t ∈ leadsF R s, t ∈ stepsR R.rooms := fun s _ t ht => (List.mem_filter.mp ht).1
    have ndL : ∀ s ∈ stepsR R.rooms, (leadsF R s).Nodup := fun s _ => List.Nodup.sublist (List.filter_sublist ..) gr.nd
    refine ⟨fun σ H' => ∃ v o3 o4 o5 o, σ = [some (.ref m), some (.ref d), some v, o3, o4, o5] ∧ Same H H' ∧ ORoad H' v o ∧ Least (leadsF R) (PrC R) o, ?_, ?_⟩
    · refine ⟨d, .dT kvs, ek, True.intro, fun od => ⟨_, rfl, d, od, rfl, .inr ⟨kvs, upd_same, ?_⟩⟩⟩
      have fxl : Fix H1 (upd H1 d (.frz od (.dT kvs))) := Fix.dT ek
      have kl : Kept d H1 (upd H1 d (.frz od (.dT kvs))) := fun c o e n => by rw [upd_ne n]; exact e
      have n1 : ∀ zs, H1 d ≠ some (.tup zs) := fun zs z => by rw [ek] at z; cases z
      have n2 : ∀ zs, H1 d ≠ some (.lst zs) := fun zs z => by rw [ek] at z; cases z
      have alk2 := alk.imp fun kv u (⟨h1, a, h2, h3⟩ : LdKv H1 (leadsF R) kv u) => (⟨h1, a, h2, h3.kept kl n1 n2⟩ : LdKv (upd H1 d (.frz od (.dT kvs))) (leadsF R) kv u)
      have ed2 : upd H1 d (.frz od (.dT kvs)) d = some (.frz od (.dT kvs)) := upd_same
      have rm2 := (rm.same s1).fix fxl
      have back : ∀ H', Same (upd H1 d (.frz od (.dT kvs))) H' → Same H1 (upd H' d (.dT kvs)) := fun H' s => lockT_same ek s
      generalize upd H1 d (.frz od (.dT kvs)) = H2 at alk2 ed2 rm2 back
      have ld2 : LdAt H2 d (stepsR R.rooms) (leadsF R) := ⟨kvs, .inr ⟨od, ed2⟩, alk2⟩
      refine for_it walk_keysT (fun i σ H' => ∃ v o3 o4 o5 o, σ = [some (.ref m), some (.ref d), some v, o3, o4, o5] ∧ Same H2 H' ∧ ORoad H' v o ∧ Least (leadsF R) (fun a b => a ∈ (stepsR R.rooms).take i ∧ PrC R a b) o) ⟨.non, none, none, none, none, rfl, Same.refl _, rfl, fun a b p => by simp at p⟩ (fun i σ H' _ pv => by obtain ⟨_, _, _, _, _, _, s, _⟩ := pv; exact s _ _ ed2) ?_ ?_
      · rintro i x σ H3 H3' hi ⟨v, o3, o4, o5, o, rfl, s3, hv, lst⟩ ⟨rfl, k, v', b, eb, rfl, hb⟩
        obtain ⟨st, est, kst⟩ : ∃ st, (stepsR R.rooms)[i]? = some st ∧ k = stK st := by
          have e1 : (kvs.map (·.1))[i]? = some k := by rw [List.getElem?_map, eb]; rfl
          rw [keyK, List.getElem?_map] at e1
          cases c : (stepsR R.rooms)[i]? with
          | none => rw [c] at e1; cases e1
          | some st => rw [c] at e1; exact ⟨st, rfl, (Option.some.inj e1).symm⟩
        subst kst
        have stS := at_mem est
        have tb : StT H3' (.ref b) st := ⟨b, rfl, hb⟩
        obtain ⟨la, ⟨xs, exs0, alx0⟩, dgF⟩ := ld2.adj stS
        have dg := dgF _ _ s3 hb
        have exs := s3 _ _ exs0
        refine ⟨_, rfl, _, rfl, d, _, rfl, dg, la, xs, rfl, SqX.lst exs, fun J SS W z0 => ?_⟩
        refine for_sq W (fun j σ H' => ∃ v o4 o5 o, σ = [some (.ref m), some (.ref d), some v, some (.ref b), o4, o5] ∧ Same H2 H' ∧ Same H3' H' ∧ ORoad H' v o ∧ Least (leadsF R) (fun a c => (a ∈ (stepsR R.rooms).take i ∧ PrC R a c) ∨ (a = st ∧ c ∈ (leadsF R st).take j ∧ PrC R a c)) o)
          ⟨v, o4, o5, o, rfl, s3, Same.refl _, hv, lst.congr fun a c => by simp⟩ (fun j σ H' pv => by obtain ⟨_, _, _, _, _, _, s, _⟩ := pv; exact W.keep (fun o e => s _ _ e) z0) ?_ ?_
        · rintro j σ H4 y ey ⟨v, o4, o5, o, rfl, s4, s34, hv, lst⟩
          obtain ⟨t, et, tt0⟩ := (alx0.imp fun _ _ r => StT.same r s4).get ey
          have tS := inS _ stS t (at_mem et)
          have tb4 := tb.same s34
          obtain ⟨bt, rfl, hbt⟩ := id tt0
          refine ⟨fun σ H' => ∃ vr o', σ = [some (.ref m), some (.ref d), some v, some (.ref b), some (.ref bt), some vr] ∧ Same H4 H' ∧ ORoad H' vr o' ∧ ((aheadB R st t = false ∧ o' = none) ∨ (aheadB R st t = true ∧ Road1 (leadsF R) st t o')), ?_, ?_⟩
          · refine ⟨_, rfl, _, rfl, _, rfl, m, .ref b, .ref bt, st, t, R, rfl, rm2.same s4, gr.nm, tb4.dp, tt0.dp, gr.isn _ stS, gr.isn _ tS, fun H5 s5 => ⟨_, rfl, ?_⟩⟩
            cases c : aheadB R st t with
            | false => exact iteF ⟨.non, none, rfl, s5, rfl, .inl ⟨rfl, rfl⟩⟩
            | true =>
              refine iteT ⟨_, rfl, _, rfl, _, rfl, d, .ref bt, .ref b, stepsR R.rooms, leadsF R, t, st, rfl, (ld2.same s4).same s5, tt0.same s5, tb4.same s5, tS, gr.nd, by omega, inS, ndL, gr.isn, gr.isn _ stS, fun H6 s6 no => ⟨.non, none, rfl, s5.trans s6, rfl, .inr ⟨rfl, no⟩⟩, fun q xs' H6 rs s6 _ eq al6 ir => ⟨.ref q, some rs, rfl, s5.trans s6, ⟨q, xs', rfl, eq, al6⟩, .inr ⟨rfl, ir⟩⟩⟩
          rintro σ H5 ⟨vr, o', rfl, s5, hr5, rel⟩
          have hv5 := hv.same s5
          have tk : ∀ a c, ((a ∈ (stepsR R.rooms).take i ∧ PrC R a c) ∨ (a = st ∧ c ∈ (leadsF R st).take (j + 1) ∧ PrC R a c)) ↔ (((a ∈ (stepsR R.rooms).take i ∧ PrC R a c) ∨ (a = st ∧ c ∈ (leadsF R st).take j ∧ PrC R a c)) ∨ (a = st ∧ c = t ∧ aheadB R st t = true)) := fun a c => by
            rw [List.take_add_one, et, List.mem_append]
            constructor
            · rintro (h | ⟨h1, h2 | h2, h3⟩)
              · exact .inl (.inl h)
              · exact .inl (.inr ⟨h1, h2, h3⟩)
              · have : c = t := by simpa using h2
                subst h1 this
                exact .inr ⟨rfl, rfl, h3.2.2⟩
            · rintro ((h | ⟨h1, h2, h3⟩) | ⟨h1, h2, h3⟩)
              · exact .inl h
              · exact .inr ⟨h1, .inl h2, h3⟩
              · subst h1 h2
                exact .inr ⟨rfl, .inr (by simp), stS, tS, h3⟩
          have lgS : ∀ rs : List Stp, IsRoad (leadsF R) t st rs → rs.length ≤ 1000 := fun rs ir => by
            have := nd_leS _ (stepsR R.rooms) ir.nodup fun y hy => by
              obtain ⟨i, hi, e⟩ := List.mem_iff_getElem.mp hy
              exact wn_in inS tS (ir.at_ i y (by rw [← e]; exact List.getElem?_eq_getElem hi)).1
            omega
          rcases rel with ⟨hf, rfl⟩ | ⟨hf, r1⟩
          · cases hr5
            refine ⟨_, rfl, rfl, _, rfl, iteF ⟨v, _, _, o, rfl, s4.trans s5, s34.trans s5, hv5, lst.congr fun a c => ?_⟩⟩
            rw [tk a c, hf]
            simp
          · have tk : ∀ a c, ((a ∈ (stepsR R.rooms).take i ∧ PrC R a c) ∨ (a = st ∧ c ∈ (leadsF R st).take (j + 1) ∧ PrC R a c)) ↔ More (fun a c => (a ∈ (stepsR R.rooms).take i ∧ PrC R a c) ∨ (a = st ∧ c ∈ (leadsF R st).take j ∧ PrC R a c)) st t a c := fun a c => by
              rw [tk a c, hf]
              unfold More
              simp
            cases o' with
            | none =>
              cases hr5
              exact ⟨_, rfl, rfl, _, rfl, iteF ⟨v, _, _, o, rfl, s4.trans s5, s34.trans s5, hv5, (lst.keep r1 fun rs' e => nomatch e).congr fun a c => (tk a c).symm⟩⟩
            | some rs' =>
              obtain ⟨q1, ys, rfl, hq1, alq⟩ := id hr5
              have l1 := alq.len
              refine ⟨_, rfl, rfl, _, rfl, iteT ⟨_, rfl, rfl, _, rfl, ?_⟩⟩
              cases o with
              | none =>
                cases hv5
                exact iteT ⟨_, rfl, .ref q1, _, _, some rs', rfl, s4.trans s5, s34.trans s5, hr5, (lst.take r1 fun rs e => nomatch e).congr fun a c => (tk a c).symm⟩
              | some rs =>
                obtain ⟨q2, zs, rfl, hq2, alz⟩ := id hv5
                have l2 := alz.len
                refine iteF ⟨_, rfl, q1, ys, rfl, .inr (SqT.of hq1), _, rfl, q2, zs, rfl, .inr (SqT.of hq2), _, _, rfl, rfl, _, rfl, ?_⟩
                refine iteD (fun c => ?_) fun c => ?_
                · exact ⟨_, rfl, .ref q1, _, _, some rs', rfl, s4.trans s5, s34.trans s5, hr5, (lst.take r1 fun rs e => by injection e with e; subst e; omega).congr fun a c => (tk a c).symm⟩
                · exact ⟨.ref q2, _, _, some rs, rfl, s4.trans s5, s34.trans s5, hv5, (lst.keep r1 fun rs' e => ⟨rs, rfl, by injection e with e; subst e; omega⟩).congr fun a c => (tk a c).symm⟩
        · rintro σ H4 ⟨v, o4, o5, o, rfl, s4, s34, hv, lst⟩
          refine ⟨v, some (.ref b), o4, o5, o, rfl, s4, hv, lst.congr fun a c => ?_⟩
          rw [alx0.len, List.take_of_length_le (Nat.le_refl _), List.take_add_one, est, List.mem_append]
          constructor
          · rintro (h | ⟨h1, h2, h3⟩)
            · exact ⟨.inl h.1, h.2⟩
            · exact ⟨.inr (by simp [h1]), h3⟩
          · rintro ⟨h1 | h1, h2⟩
            · exact .inl ⟨h1, h2⟩
            · have : a = st := by simpa using h1
              subst this
              refine .inr ⟨rfl, List.mem_filter.mpr ⟨h2.2.1, ?_⟩, h2⟩
              unfold leadB
              rw [h2.2.2, Bool.true_or]
      · rintro σ H3 ⟨v, o3, o4, o5, o, rfl, s3, hv, lst⟩
        refine ⟨s3 _ _ ed2, v, o3, o4, o5, o, rfl, s1.trans (back H3 s3), ?_, lst.congr fun a c => ?_⟩
        · cases o with
          | none => exact hv
          | some rs =>
            obtain ⟨p, xs, e, t, al⟩ := hv
            have n3 : ∀ zs, H3 d ≠ some (.tup zs) := fun zs z => by rw [s3 _ _ ed2] at z; cases z
            have kd : Kept d H3 (upd H3 d (.dT kvs)) := fun c o e n => by rw [upd_ne n]; exact e
            exact ⟨p, xs, e, kd _ _ t (fun z => n3 _ (z ▸ t)), al.imp fun _ _ r => r.kept kd n3⟩
        · rw [lal, List.take_of_length_le (Nat.le_refl _)]
          exact ⟨fun h => h.2, fun h => ⟨h.1, h⟩⟩
    · rintro σ H3 ⟨v, o3, o4, o5, o, rfl, s3, hv, lst⟩
      exact ⟨_, rfl, q v H3 o s3 hv lst⟩
end
end R0

/-! comprehensions over enumerate: what is kept, by the items' numbers -/
namespace Ec
open PySem PySem.Spec PyProof.Rows L2 Hb St Sq
theorem lc_mfe {J : It} {a : Addr} {S : Hp → Prop} {xs : List V} (W : En J a S xs) (keep : Nat → Bool) (Rel : Hp → V → Nat → Prop) {g : TG} {tt : TT} {te : TE} {vs : List Nat} {σ : L2.St} {H1 : Hp} {D : Addr} {Qd : Hp → Prop} (stand : ∀ H, Same H1 H → S H) (hD : H1 D = none)
    (hs : ∀ i x T H, xs[i]? = some x → i < xs.length → (List.range xs.length)[i]? = some i → Same H1 H → MF H1 D (List.range xs.length) keep Rel i H → H T = none → g (.ref T) (wipe σ vs) (upd H T (.tup [.int (i : Nat), x])) fun σ2 H2 => wipe σ2 vs = wipe σ vs ∧ tt σ2 H2 fun b H3 =>
      if b = true then te σ2 H3 fun y H4 => ∃ acc, H4 D = some (.lst acc) ∧ acc.length < sizeLine ∧ MF H1 D (List.range xs.length) keep Rel (i + 1) (upd H4 D (.lst (acc ++ [y]))) else MF H1 D (List.range xs.length) keep Rel (i + 1) H3)
    (hd : ∀ H ys, Same H1 H → H D = some (.lst ys) → All2 (Rel H) ys ((List.range xs.length).filter keep) → Qd H) :
    ∃ W : Nat → Nat → Hp → Prop, (∃ m, W 0 m (upd H1 D (.lst []))) ∧ ∀ i m H, W i m H →
      (J.stop i H ∧ Qd H) ∨ (J.go i H ∧ ∃ Nx : Hp → Prop, (∀ H', Nx H' → ∃ m', m' < m ∧ W (i + 1) m' H') ∧ ∀ v H', J.yld i H v H' → g v (wipe σ vs) H' fun σ2 H2 => wipe σ2 vs = wipe σ vs ∧ tt σ2 H2 fun b H3 =>
        if b = true then te σ2 H3 fun y H4 => ∃ acc, H4 D = some (.lst acc) ∧ acc.length < sizeLine ∧ Nx (upd H4 D (.lst (acc ++ [y]))) else Nx H3) := by
  refine ⟨fun i m H => m + i = xs.length ∧ MF H1 D (List.range xs.length) keep Rel i H, ⟨xs.length, rfl, fun b o e => by rw [upd_ne (ne_of_none e hD)]; exact e, [], upd_same, .nil⟩, fun i m H ⟨e, p⟩ => ?_⟩
  have sx := stand H p.same
  cases m with
  | zero =>
    obtain rfl : i = xs.length := by omega
    obtain ⟨ys, ey, al⟩ := p.acc
    rw [List.take_of_length_le (by simp)] at al
    exact .inl ⟨W.stop H sx, hd H ys p.same ey al⟩
  | succ m =>
    have hi : i < xs.length := by omega
    refine .inr ⟨W.go i H hi sx, MF H1 D (List.range xs.length) keep Rel (i + 1), fun H' p' => ⟨m, Nat.lt_succ_self m, by omega, p'⟩, fun v H' y => ?_⟩
    obtain ⟨T, x, rfl, hT, rfl, ex⟩ := W.yld i H v H' sx y
    exact hs i x T H ex hi (List.getElem?_range hi) p.same p hT
end Ec

namespace R0
open PySem PySem.Spec PyProof.Rows L2 Hb St Sq Ow En Zp RZ Rd Xb Da Wa Tn Rg Dc Mr Ec
/-! ### weaves as data -/
abbrev Lvl := List Stp
abbrev Wv := List Lvl
def lvD (l : Lvl) : PyData := .tuple (l.map stD)
def wvD (w : Wv) : PyData := .tuple (w.map lvD)
def wlD (w : Wv) : PyData := .list (w.map lvD)
theorem noL_lv (l : Lvl) : noL (lvD l) = true := by unfold lvD; simp only [noL]; exact noLs_map noL_st l
theorem noL_wv (w : Wv) : noL (wvD w) = true := by unfold wvD; simp only [noL]; exact noLs_map noL_lv w
theorem any_st (l : Lvl) (s : Stp) : ((l.map stD).any fun z => PyData.eqv z (stD s)) = decide (s ∈ l) := by
  induction l with
  | nil => simp
  | cons a r ih =>
    rw [List.map_cons, List.any_cons, ih, eqv_st, ← Bool.decide_or]
    exact decide_eq_decide.mpr (by rw [List.mem_cons, eq_comm])
def WvNm (w : Wv) : Prop := ∀ l ∈ w, ∀ s ∈ l, IsNm s.1
theorem sh_lv {l : Lvl} (h : ∀ s ∈ l, IsNm s.1) : Sh 2 (lvD l) := sh_tup fun x hx => sh_st (h x hx)
/-- the number of the first level with a step -/
def lvl (w : Wv) (s : Stp) : Nat := w.findIdx fun l => decide (s ∈ l)
theorem idx_head (w : Wv) (s : Stp) (h : ∃ l ∈ w, s ∈ l) : ∃ r, (List.range w.length).filter (fun i => decide (s ∈ w.getD i [])) = lvl w s :: r := by
  have key : ∀ (w : Wv) (k : Nat), (∃ l ∈ w, s ∈ l) → ∃ r, (List.range' k w.length).filter (fun i => decide (s ∈ w.getD (i - k) [])) = (k + lvl w s) :: r := by
    intro w
    induction w with
    | nil => rintro k ⟨l, hl, _⟩; cases hl
    | cons a w ih =>
      intro k h
      rw [List.length_cons, List.range'_succ]
      by_cases c : s ∈ a
      · rw [List.filter_cons_of_pos (by rw [Nat.sub_self]; exact decide_eq_true c)]
        unfold lvl
        rw [List.findIdx_cons, decide_eq_true c]
        exact ⟨_, rfl⟩
      · rw [List.filter_cons_of_neg (by rw [Nat.sub_self]; simpa using c)]
        obtain ⟨r, e⟩ := ih (k + 1) (by
          obtain ⟨l, hl, m⟩ := h
          rcases List.mem_cons.mp hl with rfl | hl
          · exact (c m).elim
          · exact ⟨l, hl, m⟩)
        refine ⟨r, ?_⟩
        have e2 : (List.range' (k + 1) w.length).filter (fun i => decide (s ∈ (a :: w).getD (i - k) [])) = (List.range' (k + 1) w.length).filter (fun i => decide (s ∈ w.getD (i - (k + 1)) [])) := by
          refine List.filter_congr fun i hi => ?_
          have := (List.mem_range'_1.mp hi).1
          obtain ⟨j, rfl⟩ : ∃ j, i = k + 1 + j := ⟨i - (k + 1), by omega⟩
          rw [show k + 1 + j - k = j + 1 from by omega, show k + 1 + j - (k + 1) = j from by omega]
          rfl
        rw [e2, e]
        unfold lvl
        rw [List.findIdx_cons, decide_eq_false c]
        simp
        omega
  obtain ⟨r, e⟩ := key w 0 h
  rw [List.range_eq_range']
  refine ⟨r, ?_⟩
  rw [← Nat.zero_add (lvl w s), ← e]
  rfl
section
variable {P : Program} {w : World} {K : PySem.W.Frag} {mg : Str → Option Value} {base : Heap} {C : Addr}
/-! ### _law_level -/
abbrev s__law_level : Stmt := top 44
theorem sc__law_level : FnScope ["weave", "step", "at", "level"] ["weave", "step"] (defScope s__law_level) := ⟨rfl, rfl, rfl, by decide +kernel, rfl, by decide +kernel, by decide +kernel⟩
/-- a weave, as a list or a tuple -/
def WvAt (K : PySem.W.Frag) (H : Hp) (v : V) (W : Wv) : Prop := ∃ a xs, v = .ref a ∧ SqX K H a xs ∧ All2 (fun v l => Dp K H v (lvD l)) xs W
def spLevel (K : PySem.W.Frag) : Sp := fun vs H Q _ => ∃ (v1 v2 : V) (W : Wv) (s : Stp), vs = [v1, v2] ∧ WvAt K H v1 W ∧ Dp K H v2 (stD s) ∧ (∃ l ∈ W, s ∈ l) ∧ WvNm W ∧ IsNm s.1 ∧ W.length ≤ 1000 ∧ ∀ H', Same H H' → Q (.int (lvl W s : Nat)) H'
theorem ok_level {f : Addr} {fd : FuncData} (F : Fun K "_law_level" "_law_level" s__law_level f fd) (n_enumerate : mg "enumerate" = none) : FnOk P w K mg base CX0 1 f fd ["weave", "step"] (spLevel K) := by
  refine F.ok sc__law_level (fun vs H Q E h => ?_) (fun cdv A outer s H vs Q E hr h => ?_)
  · obtain ⟨_, _, _, _, rfl, _⟩ := h
    rfl
  · obtain ⟨v1, v2, W, s, rfl, ⟨a, xs, rfl, hx, al⟩, h2, hin, nW, nS, lW, q⟩ := h
    refine ⟨_, (pss_one (ps_ret (pe_ix ix_list (pe_lc (own := [("at", 2), ("level", 3)]) (g := gTup K 2 (gCons (gName 2) (gCons (gName 3) gNil))) rfl sc__law_level.nd (pi_or (pi_enum (by rfl) n_enumerate (pa_cons (pv 0) pa_nil)) (pi_enumT (by rfl) n_enumerate (pa_cons (pv 0) pa_nil))) (blkOk_by (N := ["weave", "step", "at", "level"]) (sc := defScope s__law_level) (by decide +kernel)) (fun _ _ _ _ _ => pg_tup rfl (pgs_cons (pg_name (i := 2) sc__law_level.nd rfl (Or.inl rfl)) (pgs_cons (pg_name (i := 3) sc__law_level.nd rfl (Or.inl rfl)) pgs_nil))) (fun _ _ _ _ _ => pts_one (pt_cmpR (r := rInT K) (op_inT hr.units65) (pv 1) (pv 3) rfl)) (fun _ _ _ _ _ => pv 2)) pe_int (fun _ _ => rfl)))), ?_⟩
    have lal := al.len
    obtain ⟨r, er⟩ := idx_head W s hin
    rcases hx with hx | hx
    · refine .inl ⟨_, rfl, a, xs, rfl, hx, fun D hD => ?_⟩
      refine lc_mfe en_list (fun i => decide (s ∈ W.getD i [])) (fun _ y i => y = .int (i : Nat)) (fun H' s => lstSame s hx) hD (fun i x T H' ex hi ei s1 m hT => ?_) (fun H' ys s1 e al2 => ?_)
      · obtain ⟨l, el, dl⟩ := al.get ex
        have sT := same_new hT (.tup [.int (i : Nat), x])
        have s2 := s1.trans sT
        refine ⟨T, _, rfl, SqT.of upd_same, rfl, _, _, rfl, _, _, rfl, rfl, rfl, _, rfl, _, rfl, stD s, l.map stD, dp_same s2 h2, dp_same s2 dl, (sh_st nS).ok (by decide), (sh_lv (nW l (at_mem el))).ok (by decide), ⟨_, rfl, ?_⟩⟩
        rw [any_st]
        have eg : W.getD i [] = l := by rw [List.getD_eq_getElem?_getD, el]; rfl
        refine iteD (fun c => ⟨_, rfl, mf_yes m hD (fun _ _ _ _ _ h => h) ei (by simp; omega) sT (by rw [eg]; exact decide_eq_true c) rfl⟩) fun c => mf_no m (fun _ _ _ _ _ h => h) ei sT (by rw [eg]; exact decide_eq_false c)
      · rw [lal, er] at al2
        have ey := al2.map_eq (f := fun i : Nat => V.int (i : Nat)) fun _ _ h => h
        subst ey
        exact ⟨D, _, 0, _, rfl, rfl, SqL.of e, at0, q H' s1⟩
    · refine .inr ⟨_, rfl, a, rfl, ⟨xs, hx⟩, fun D hD => ?_⟩
      refine lc_mfe en_tup (fun i => decide (s ∈ W.getD i [])) (fun _ y i => y = .int (i : Nat)) (fun H' s => tupFix (Fix.of s) hx) hD (fun i x T H' ex hi ei s1 m hT => ?_) (fun H' ys s1 e al2 => ?_)
      · obtain ⟨l, el, dl⟩ := al.get ex
        have sT := same_new hT (.tup [.int (i : Nat), x])
        have s2 := s1.trans sT
        refine ⟨T, _, rfl, SqT.of upd_same, rfl, _, _, rfl, _, _, rfl, rfl, rfl, _, rfl, _, rfl, stD s, l.map stD, dp_same s2 h2, dp_same s2 dl, (sh_st nS).ok (by decide), (sh_lv (nW l (at_mem el))).ok (by decide), ⟨_, rfl, ?_⟩⟩
        rw [any_st]
        have eg : W.getD i [] = l := by rw [List.getD_eq_getElem?_getD, el]; rfl
        refine iteD (fun c => ⟨_, rfl, mf_yes m hD (fun _ _ _ _ _ h => h) ei (by simp; omega) sT (by rw [eg]; exact decide_eq_true c) rfl⟩) fun c => mf_no m (fun _ _ _ _ _ h => h) ei sT (by rw [eg]; exact decide_eq_false c)
      · rw [lal, er] at al2
        have ey := al2.map_eq (f := fun i : Nat => V.int (i : Nat)) fun _ _ h => h
        subst ey
        exact ⟨D, _, 0, _, rfl, rfl, SqL.of e, at0, q H' s1⟩
theorem WvAt.same {H H' : Hp} {v : V} {W : Wv} (h : WvAt K H v W) (s : Same H H') : WvAt K H' v W := let ⟨a, xs, e, hx, al⟩ := h; ⟨a, xs, e, sqxSame s hx, al.imp fun _ _ r => dp_same s r⟩
def fitsB (W : Wv) (gs cs : List Jn) : Bool := gs.all (fun j => decide (lvl W j.1 = lvl W j.2)) && cs.all fun j => decide (lvl W j.1 < lvl W j.2)
theorem rd_eqNil {H : Hp} {Q : VK} {l t : Addr} {ns : List Int} (hl : SqL K H l (ns.map V.int)) (ht : SqL K H t []) (q : Q (.bl (decide (ns = []))) H) : rEqD K (.ref l) (.ref t) H Q :=
  ⟨_, _, .lst hl (dp_ints ns), .lst ht .nil, shp_ints ns, shp_ints [], by rw [eqv_nil]; exact q⟩
theorem ones_nil {α : Type} (l : List α) (p : α → Bool) : decide ((l.filter p).map (fun _ => (1 : Int)) = []) = l.all fun x => !p x := by
  have hiff : (l.filter p).map (fun _ => (1 : Int)) = [] ↔ ∀ a ∈ l, ¬ p a = true := by rw [List.map_eq_nil_iff, List.filter_eq_nil_iff]
  by_cases h : ∀ a ∈ l, ¬ p a = true
  · rw [decide_eq_true (hiff.mpr h)]
    exact (List.all_eq_true.mpr fun x hx => by simpa using h x hx).symm
  · rw [decide_eq_false fun z => h (hiff.mp z)]
    symm
    rw [Bool.eq_false_iff]
    intro z
    exact h fun a ha => by simpa using List.all_eq_true.mp z a ha
def InW (W : Wv) (j : Jn) : Prop := (∃ l ∈ W, j.1 ∈ l) ∧ ∃ l ∈ W, j.2 ∈ l
/-! ### _law_fits -/
abbrev s__law_fits : Stmt := top 45
theorem sc__law_fits : FnScope ["weave", "gongs", "calls", "one", "other"] ["weave", "gongs", "calls"] (defScope s__law_fits) := ⟨rfl, rfl, rfl, by decide +kernel, rfl, by decide +kernel, by decide +kernel⟩
def spFits (K : PySem.W.Frag) : Sp := fun vs H Q _ => ∃ (v : V) (g c : Addr) (W : Wv) (gs cs : List Jn), vs = [v, .ref g, .ref c] ∧ WvAt K H v W ∧ ListAt K H g jnD gs ∧ ListAt K H c jnD cs ∧ (∀ j ∈ gs, InW W j) ∧ (∀ j ∈ cs, InW W j) ∧ WvNm W ∧ (∀ j ∈ gs, NmJ j) ∧ (∀ j ∈ cs, NmJ j) ∧ W.length ≤ 1000 ∧ gs.length ≤ 1000 ∧ cs.length ≤ 1000 ∧ ∀ H', Same H H' → Q (.bl (fitsB W gs cs)) H'
theorem ok_fits {f : Addr} {fd : FuncData} (F : Fun K "_law_fits" "_law_fits" s__law_fits f fd) (C__law_level : Cl P w K mg base "_law_level" ["weave", "step"] [] 1 (spLevel K)) : FnOk P w K mg base CX0 2 f fd ["weave", "gongs", "calls"] (spFits K) := by
  refine F.ok sc__law_fits (fun vs H Q E h => ?_) (fun cdv A outer s H vs Q E hr h => ?_)
  · obtain ⟨_, _, _, _, _, _, rfl, _⟩ := h
    rfl
  · obtain ⟨v, g, c, W, gs, cs, rfl, wa, ⟨xg, eg, ag⟩, ⟨xc, ec, ac⟩, ig, ic, nW, ng, nc, lW, lg, lc, q⟩ := h
    refine ⟨_, (Evl.pss_cut (ps_if (pt_cmpR (op_neD hr.units) (pe_lc (own := [("one", 3), ("other", 4)]) (g := gTup K 2 (gCons (gName 3) (gCons (gName 4) gNil))) rfl sc__law_fits.nd (pi_seq (pv 1)) (blkOk_by (N := ["weave", "gongs", "calls", "one", "other"]) (sc := defScope s__law_fits) (by decide +kernel)) (fun _ _ _ _ _ => pg_tup rfl (pgs_cons (pg_name (i := 3) sc__law_fits.nd rfl (Or.inl rfl)) (pgs_cons (pg_name (i := 4) sc__law_fits.nd rfl (Or.inl rfl)) pgs_nil))) (fun _ _ _ _ _ => pts_one (pt_cmpR op_ne (pe_use C__law_level (hr.mono (by decide)) rfl (pa_cons (pv 0) (pa_cons (pv 3) pa_nil))) (pe_use C__law_level (hr.mono (by decide)) rfl (pa_cons (pv 0) (pa_cons (pv 4) pa_nil))) (nomark _))) (fun _ _ _ _ _ => pe_int)) (pe_lst pa_nil) (nomark _)) (pss_one (ps_ret pe_bl)) pss_nil)
    (pss_one (ps_ret (pe_cmpR (op_eqD hr.units) (pe_lc (own := [("one", 3), ("other", 4)]) (g := gTup K 2 (gCons (gName 3) (gCons (gName 4) gNil))) rfl sc__law_fits.nd (pi_seq (pv 2)) (blkOk_by (N := ["weave", "gongs", "calls", "one", "other"]) (sc := defScope s__law_fits) (by decide +kernel)) (fun _ _ _ _ _ => pg_tup rfl (pgs_cons (pg_name (i := 3) sc__law_fits.nd rfl (Or.inl rfl)) (pgs_cons (pg_name (i := 4) sc__law_fits.nd rfl (Or.inl rfl)) pgs_nil))) (fun _ _ _ _ _ => pts_one (pt_cmpR op_ge (pe_use C__law_level (hr.mono (by decide)) rfl (pa_cons (pv 0) (pa_cons (pv 3) pa_nil))) (pe_use C__law_level (hr.mono (by decide)) rfl (pa_cons (pv 0) (pa_cons (pv 4) pa_nil))) (nomark _))) (fun _ _ _ _ _ => pe_int)) (pe_lst pa_nil) (nomark _))))), ?_⟩
    have lag := ag.len
    have lac := ac.len
    have eqI : ∀ a b : Nat, decide (V.int (a : Nat) = V.int (b : Nat)) = decide (a = b) := fun a b => decide_eq_decide.mpr ⟨fun h => by injection h with h; omega, fun h => by rw [h]⟩
    refine ⟨fun σ H' => σ = [some v, some (.ref g), some (.ref c), none, none] ∧ Same H H' ∧ (gs.all fun j => decide (lvl W j.1 = lvl W j.2)) = true, ?_, ?_⟩
    · refine ⟨_, rfl, g, xg, rfl, SqX.lst eg, fun J S WW z0 D hD => ?_⟩
      refine lc_mf (ds := gs) WW (fun j => !decide (lvl W j.1 = lvl W j.2)) (fun _ y _ => y = .int 1) z0 hD lag (fun i x j H' ex ej s1 m => ?_) (fun H' ys s1 e al => ?_)
      · obtain ⟨j', ej', dj⟩ := ag.get ex
        obtain rfl := Option.some.inj (ej'.symm.trans ej)
        obtain ⟨b, v1, v2, rfl, hb, d1, d2⟩ := dp_jn (dp_same s1 dj)
        have jm := at_mem ej
        refine ⟨b, _, rfl, hb, rfl, _, _, rfl, _, _, rfl, rfl, rfl, _, rfl, _, rfl, v, v1, W, j'.1, rfl, wa.same s1, d1, (ig _ jm).1, nW, (ng _ jm).1, lW, fun H2 s2 => ⟨_, rfl, _, rfl, v, v2, W, j'.2, rfl, (wa.same s1).same s2, dp_same s2 d2, (ig _ jm).2, nW, (ng _ jm).2, lW, fun H3 s3 => ⟨rfl, _, rfl, ?_⟩⟩⟩
        rw [eqI]
        cases c : decide (lvl W j'.1 = lvl W j'.2) with
        | true => exact iteF (mf_no m (fun _ _ _ _ _ h => h) ej (s2.trans s3) (by rw [c]; rfl))
        | false => exact iteT (mf_yes m hD (fun _ _ _ _ _ h => h) ej (by omega) (s2.trans s3) (by rw [c]; rfl) rfl)
      · have ey := al.map_eq (f := fun _ : Jn => V.int 1) fun _ _ h => h
        rw [ey] at e
        have em : (gs.filter fun j => !decide (lvl W j.1 = lvl W j.2)).map (fun _ => V.int 1) = ((gs.filter fun j => !decide (lvl W j.1 = lvl W j.2)).map fun _ => (1 : Int)).map V.int := by rw [List.map_map]; rfl
        rw [em] at e
        refine ⟨by show 0 ≤ sizeLine; decide, fun t ht => ?_⟩
        have s2 := same_new ht (.lst [])
        refine rd_neNil (SqL.of (s2 _ _ e)) (SqL.of upd_same) ⟨_, rfl, ?_⟩
        rw [ones_nil]
        have e3 : (gs.all fun x => !!decide (lvl W x.1 = lvl W x.2)) = gs.all fun j => decide (lvl W j.1 = lvl W j.2) := by simp
        rw [e3]
        cases c : gs.all fun j => decide (lvl W j.1 = lvl W j.2) with
        | true => exact iteF ⟨rfl, s1.trans s2, rfl⟩
        | false =>
          have := q _ (s1.trans s2)
          unfold fitsB at this
          rw [c, Bool.false_and] at this
          exact iteT this
    rintro σ H1 ⟨rfl, s0, cg⟩
    refine ⟨_, rfl, c, xc, rfl, SqX.lst (s0 _ _ ec), fun J S WW z0 D hD => ?_⟩
    refine lc_mf (ds := cs) WW (fun j => !decide (lvl W j.1 < lvl W j.2)) (fun _ y _ => y = .int 1) z0 hD lac (fun i x j H' ex ej s1 m => ?_) (fun H' ys s1 e al => ?_)
    · obtain ⟨j', ej', dj⟩ := ac.get ex
      obtain rfl := Option.some.inj (ej'.symm.trans ej)
      obtain ⟨b, v1, v2, rfl, hb, d1, d2⟩ := dp_jn (dp_same (s0.trans s1) dj)
      have jm := at_mem ej
      have wa1 := wa.same (s0.trans s1)
      refine ⟨b, _, rfl, hb, rfl, _, _, rfl, _, _, rfl, rfl, rfl, _, rfl, _, rfl, v, v1, W, j'.1, rfl, wa1, d1, (ic _ jm).1, nW, (nc _ jm).1, lW, fun H2 s2 => ⟨_, rfl, _, rfl, v, v2, W, j'.2, rfl, wa1.same s2, dp_same s2 d2, (ic _ jm).2, nW, (nc _ jm).2, lW, fun H3 s3 => ⟨_, _, rfl, rfl, _, rfl, ?_⟩⟩⟩
      refine iteD (fun c => mf_yes m hD (fun _ _ _ _ _ h => h) ej (by omega) (s2.trans s3) (by rw [decide_eq_false (by omega)]; rfl) rfl) fun c => mf_no m (fun _ _ _ _ _ h => h) ej (s2.trans s3) (by rw [decide_eq_true (by omega)]; rfl)
    · have ey := al.map_eq (f := fun _ : Jn => V.int 1) fun _ _ h => h
      rw [ey] at e
      have em : (cs.filter fun j => !decide (lvl W j.1 < lvl W j.2)).map (fun _ => V.int 1) = ((cs.filter fun j => !decide (lvl W j.1 < lvl W j.2)).map fun _ => (1 : Int)).map V.int := by rw [List.map_map]; rfl
      rw [em] at e
      refine ⟨by show 0 ≤ sizeLine; decide, fun t ht => ?_⟩
      have s2 := same_new ht (.lst [])
      refine rd_eqNil (SqL.of (s2 _ _ e)) (SqL.of upd_same) ?_
      rw [ones_nil]
      have e3 : (cs.all fun x => !!decide (lvl W x.1 < lvl W x.2)) = cs.all fun j => decide (lvl W j.1 < lvl W j.2) := by simp
      rw [e3]
      have := q _ ((s0.trans s1).trans s2)
      unfold fitsB at this
      rw [cg, Bool.true_and] at this
      exact this
end
end R0

/-! weaves: how they are built level by level -/
namespace R0
open PySem Mr
def rmD0 : Rm := (Str.empty, [])
def nm (rs : List Rm) (i : Nat) : Str := (rs.getD i rmD0).1
def ln (rs : List Rm) (i : Nat) : Nat := (rs.getD i rmD0).2.length
def someN (rs : List Rm) (d : List Nat) : List Nat := (List.range rs.length).filter fun i => decide (d.getD i 0 < ln rs i)
def someI (rs : List Rm) (d : List Nat) : List Int := (someN rs d).map fun i : Nat => (i : Int)
def lvOf (rs : List Rm) (d : List Nat) (lot : List Int) : Lvl := lot.map fun a => (nm rs a.toNat, ((d.getD a.toNat 0 : Nat) : Int) + 1)
def later (d : List Nat) (lot : List Int) : List Nat := (List.range d.length).map fun i => if ((i : Nat) : Int) ∈ lot then d.getD i 0 + 1 else d.getD i 0
inductive Rf (rs : List Rm) : Wv → List Nat → Wv → Prop
  | done {W : Wv} {d : List Nat} : someN rs d = [] → Rf rs W d W
  | step {W W' : Wv} {d : List Nat} {lot : List Int} : lot ∈ lotsL (someI rs d) → Rf rs (W ++ [lvOf rs d lot]) (later d lot) W' → Rf rs W d W'
def zs (rs : List Rm) : List Nat := rs.map fun _ => 0
def IsWeave (rs : List Rm) (W : Wv) : Prop := Rf rs [] (zs rs) W
def rem (rs : List Rm) (d : List Nat) : Nat := ((List.range rs.length).map fun i => ln rs i - d.getD i 0).sum
theorem rf_iff {rs : List Rm} {W W' : Wv} {d : List Nat} : Rf rs W d W' ↔ (someN rs d = [] ∧ W' = W) ∨ ∃ lot ∈ lotsL (someI rs d), Rf rs (W ++ [lvOf rs d lot]) (later d lot) W' := by
  constructor
  · intro h
    cases h with
    | done e => exact .inl ⟨e, rfl⟩
    | step m r => exact .inr ⟨_, m, r⟩
  · rintro (⟨e, rfl⟩ | ⟨lot, m, r⟩)
    · exact .done e
    · exact .step m r
theorem sum_lt {f g : Nat → Nat} : ∀ (l : List Nat), (∀ i ∈ l, g i ≤ f i) → (∃ i ∈ l, g i < f i) → (l.map g).sum < (l.map f).sum
  | [], _, ⟨_, h, _⟩ => nomatch h
  | x :: l, le, ⟨i, hi, lt⟩ => by
    have h1 := le x List.mem_cons_self
    have mono : ∀ l : List Nat, (∀ i ∈ l, g i ≤ f i) → (l.map g).sum ≤ (l.map f).sum := fun l => by
      induction l with
      | nil => intro _; exact Nat.le_refl _
      | cons y l ih => intro h; have := h y List.mem_cons_self; have := ih fun z hz => h z (List.mem_cons_of_mem _ hz); simp only [List.map_cons, List.sum_cons]; omega
    simp only [List.map_cons, List.sum_cons]
    rcases List.mem_cons.mp hi with rfl | hi
    · have := mono l fun z hz => le z (List.mem_cons_of_mem _ hz)
      omega
    · have := sum_lt l (fun z hz => le z (List.mem_cons_of_mem _ hz)) ⟨i, hi, lt⟩
      omega
theorem later_len (d : List Nat) (lot : List Int) : (later d lot).length = d.length := by unfold later; simp
theorem later_get {d : List Nat} {lot : List Int} {i : Nat} (h : i < d.length) : (later d lot).getD i 0 = if ((i : Nat) : Int) ∈ lot then d.getD i 0 + 1 else d.getD i 0 := by
  unfold later
  rw [List.getD_eq_getElem?_getD, List.getElem?_map, List.getElem?_range h]
  rfl
theorem lot_in {rs : List Rm} {d : List Nat} {lot : List Int} (h : lot ∈ lotsL (someI rs d)) : lot ≠ [] ∧ ∀ a ∈ lot, ∃ i : Nat, a = (i : Int) ∧ i < rs.length ∧ d.getD i 0 < ln rs i := by
  obtain ⟨h1, h2⟩ := (mem_lotsL _ _).mp h
  refine ⟨h1, fun a ha => ?_⟩
  have := h2.subset ha
  unfold someI someN at this
  obtain ⟨i, hi, rfl⟩ := List.mem_map.mp this
  obtain ⟨h3, h4⟩ := List.mem_filter.mp hi
  exact ⟨i, rfl, List.mem_range.mp h3, of_decide_eq_true h4⟩
theorem rem_lt {rs : List Rm} {d : List Nat} {lot : List Int} (hd : d.length = rs.length) (h : lot ∈ lotsL (someI rs d)) : rem rs (later d lot) < rem rs d := by
  obtain ⟨h1, h2⟩ := lot_in h
  obtain ⟨a, ha⟩ := List.exists_mem_of_ne_nil _ h1
  obtain ⟨i, rfl, hi, lt⟩ := h2 a ha
  unfold rem
  refine sum_lt _ (fun j hj => ?_) ⟨i, List.mem_range.mpr hi, ?_⟩
  · rw [later_get (by rw [hd]; exact List.mem_range.mp hj)]
    split <;> omega
  · rw [later_get (by omega), if_pos ha]
    omega
theorem rem_zero {rs : List Rm} {d : List Nat} (h : rem rs d = 0) : someN rs d = [] := by
  unfold rem at h
  unfold someN
  rw [List.filter_eq_nil_iff]
  intro i hi z
  have lt := of_decide_eq_true z
  have : ∀ l : List Nat, i ∈ l → (l.map fun i => ln rs i - d.getD i 0).sum = 0 → ln rs i - d.getD i 0 = 0 := fun l => by
    induction l with
    | nil => intro h; cases h
    | cons x l ih =>
      intro hm hs
      simp only [List.map_cons, List.sum_cons] at hs
      rcases List.mem_cons.mp hm with rfl | hm
      · omega
      · exact ih hm (by omega)
  have := this _ hi h
  omega
/-! ### where the steps stand -/
def In (W : Wv) (s : Stp) : Prop := ∃ l ∈ W, s ∈ l
theorem lvl_lt {W : Wv} {s : Stp} (h : In W s) : lvl W s < W.length := by
  unfold lvl
  rw [List.findIdx_lt_length]
  obtain ⟨l, hl, m⟩ := h
  exact ⟨l, hl, decide_eq_true m⟩
theorem lvl_old {W V : Wv} {s : Stp} (h : In W s) : lvl (W ++ V) s = lvl W s := by
  have := lvl_lt h
  unfold lvl at this ⊢
  rw [List.findIdx_append, if_pos this]
theorem lvl_new {W : Wv} {l : Lvl} {s : Stp} (h : ¬ In W s) (m : s ∈ l) : lvl (W ++ [l]) s = W.length := by
  have : ¬ (W.findIdx fun l => decide (s ∈ l)) < W.length := fun z => by
    rw [List.findIdx_lt_length] at z
    obtain ⟨k, hk, e⟩ := z
    exact h ⟨k, hk, of_decide_eq_true e⟩
  unfold lvl
  rw [List.findIdx_append, if_neg this, List.findIdx_cons, decide_eq_true m]
  simp
theorem in_snoc {W : Wv} {l : Lvl} {s : Stp} : In (W ++ [l]) s ↔ In W s ∨ s ∈ l := by
  constructor
  · rintro ⟨k, hk, m⟩
    rcases List.mem_append.mp hk with hk | hk
    · exact .inl ⟨k, hk, m⟩
    · rw [List.mem_singleton.mp hk] at m; exact .inr m
  · rintro (⟨k, hk, m⟩ | m)
    · exact ⟨k, List.mem_append_left _ hk, m⟩
    · exact ⟨l, by simp, m⟩
structure PW (rs : List Rm) (W : Wv) (d : List Nat) : Prop where
  len : d.length = rs.length
  le : ∀ i, i < rs.length → d.getD i 0 ≤ ln rs i
  mem : ∀ s, In W s ↔ ∃ i, i < rs.length ∧ s.1 = nm rs i ∧ 1 ≤ s.2 ∧ s.2 ≤ ((d.getD i 0 : Nat) : Int)
  ord : ∀ a b, In W a → In W b → a.1 = b.1 → a.2 < b.2 → lvl W a < lvl W b
  cnt : W.length + rem rs d ≤ rem rs (zs rs)
theorem zs_get (rs : List Rm) (i : Nat) : (zs rs).getD i 0 = 0 := by
  unfold zs
  rw [List.getD_eq_getElem?_getD, List.getElem?_map]
  cases rs[i]? <;> rfl
theorem PW.start (rs : List Rm) : PW rs [] (zs rs) := by
  refine ⟨by unfold zs; simp, fun i _ => by rw [zs_get]; omega, fun s => ?_, fun a _ h => (by obtain ⟨_, h, _⟩ := h; cases h), by simp⟩
  constructor
  · rintro ⟨_, h, _⟩; cases h
  · rintro ⟨i, _, _, h1, h2⟩; rw [zs_get] at h2; omega
theorem mem_lv {rs : List Rm} {d : List Nat} {lot : List Int} (h : lot ∈ lotsL (someI rs d)) {s : Stp} : s ∈ lvOf rs d lot ↔ ∃ i : Nat, (i : Int) ∈ lot ∧ i < rs.length ∧ d.getD i 0 < ln rs i ∧ s = (nm rs i, ((d.getD i 0 : Nat) : Int) + 1) := by
  unfold lvOf
  rw [List.mem_map]
  constructor
  · rintro ⟨a, ha, rfl⟩
    obtain ⟨i, rfl, h1, h2⟩ := (lot_in h).2 a ha
    exact ⟨i, ha, h1, h2, rfl⟩
  · rintro ⟨i, ha, _, _, rfl⟩
    exact ⟨_, ha, rfl⟩
theorem nm_inj {rs : List Rm} (nd : (rs.map (·.1)).Nodup) {i j : Nat} (hi : i < rs.length) (hj : j < rs.length) (e : nm rs i = nm rs j) : i = j := by
  have h1 : ∀ k, k < rs.length → (rs.map (·.1))[k]? = some (nm rs k) := fun k hk => by
    rw [List.getElem?_map, List.getElem?_eq_getElem hk]
    unfold nm
    rw [List.getD_eq_getElem?_getD, List.getElem?_eq_getElem hk]; rfl
  have e2 := (h1 i hi).trans ((congrArg some e).trans (h1 j hj).symm)
  exact (List.getElem?_inj (by simpa using hi) nd).mp e2
theorem PW.step {rs : List Rm} (nd : (rs.map (·.1)).Nodup) {W : Wv} {d : List Nat} {lot : List Int} (p : PW rs W d) (h : lot ∈ lotsL (someI rs d)) : PW rs (W ++ [lvOf rs d lot]) (later d lot) := by
  have new : ∀ s, s ∈ lvOf rs d lot → ¬ In W s := fun s hs z => by
    obtain ⟨i, _, hi, _, rfl⟩ := (mem_lv h).mp hs
    obtain ⟨j, hj, e, _, e2⟩ := (p.mem _).mp z
    obtain rfl := nm_inj nd hi hj e
    have e2 : ((d.getD i 0 : Nat) : Int) + 1 ≤ ((d.getD i 0 : Nat) : Int) := e2
    omega
  refine ⟨by rw [later_len, p.len], fun i hi => ?_, fun s => ?_, fun a b ha hb e lt => ?_, by have := p.cnt; have := rem_lt p.len h; rw [List.length_append, List.length_singleton]; omega⟩
  · rw [later_get (by rw [p.len]; exact hi)]
    split
    · rename_i m
      obtain ⟨j, e, _, lt⟩ := (lot_in h).2 _ m
      obtain rfl : i = j := by omega
      omega
    · exact p.le i hi
  · rw [in_snoc, p.mem, mem_lv h]
    constructor
    · rintro (⟨i, hi, e, h1, h2⟩ | ⟨i, m, hi, lt, rfl⟩)
      · refine ⟨i, hi, e, h1, ?_⟩
        rw [later_get (by rw [p.len]; exact hi)]
        split <;> omega
      · refine ⟨i, hi, rfl, ?_, ?_⟩
        · show (1 : Int) ≤ ((d.getD i 0 : Nat) : Int) + 1
          omega
        · rw [later_get (by rw [p.len]; exact hi), if_pos m]
          show ((d.getD i 0 : Nat) : Int) + 1 ≤ ((d.getD i 0 + 1 : Nat) : Int)
          omega
    · rintro ⟨i, hi, e, h1, h2⟩
      rw [later_get (by rw [p.len]; exact hi)] at h2
      split at h2
      · rename_i m
        rcases Int.lt_or_le s.2 (((d.getD i 0 : Nat) : Int) + 1) with c | c
        · exact .inl ⟨i, hi, e, h1, by omega⟩
        · obtain ⟨j, ej, _, lt⟩ := (lot_in h).2 _ m
          obtain rfl : i = j := by omega
          exact .inr ⟨i, m, hi, lt, Prod.ext e (by show s.2 = _; omega)⟩
      · exact .inl ⟨i, hi, e, h1, h2⟩
  · rcases in_snoc.mp hb with hb | hb
    · have ha' : In W a := by
        rcases in_snoc.mp ha with z | z
        · exact z
        · obtain ⟨i, _, hi, _, rfl⟩ := (mem_lv h).mp z
          obtain ⟨j, hj, e1, _, e2⟩ := (p.mem _).mp hb
          obtain rfl := nm_inj nd hi hj (e.trans e1)
          have lt : ((d.getD i 0 : Nat) : Int) + 1 < b.2 := lt
          omega
      rw [lvl_old ha', lvl_old hb]
      exact p.ord a b ha' hb e lt
    · rw [lvl_new (new b hb) hb]
      rcases in_snoc.mp ha with z | z
      · rw [lvl_old z]; exact lvl_lt z
      · obtain ⟨i, _, hi, _, rfl⟩ := (mem_lv h).mp z
        obtain ⟨j, _, hj, _, rfl⟩ := (mem_lv h).mp hb
        obtain rfl := nm_inj nd hi hj e
        exact absurd lt (Int.lt_irrefl _)
theorem mem_steps {rs : List Rm} {s : Stp} : s ∈ stepsR rs ↔ ∃ i, i < rs.length ∧ s.1 = nm rs i ∧ 1 ≤ s.2 ∧ s.2 ≤ ((ln rs i : Nat) : Int) := by
  unfold stepsR
  rw [List.mem_flatMap]
  have get : ∀ (i : Nat) (hi : i < rs.length), rs.getD i rmD0 = rs[i] := fun i hi => by rw [List.getD_eq_getElem?_getD, List.getElem?_eq_getElem hi]; rfl
  constructor
  · rintro ⟨r, hr, hs⟩
    obtain ⟨i, hi, rfl⟩ := List.mem_iff_getElem.mp hr
    obtain ⟨k, hk, rfl⟩ := List.mem_map.mp hs
    have hk := List.mem_range.mp hk
    refine ⟨i, hi, by unfold nm; rw [get i hi], by show (1 : Int) ≤ (k : Int) + 1; omega, ?_⟩
    unfold ln
    rw [get i hi]
    show (k : Int) + 1 ≤ _
    omega
  · rintro ⟨i, hi, e, h1, h2⟩
    unfold ln at h2
    unfold nm at e
    rw [get i hi] at e h2
    refine ⟨rs[i], List.getElem_mem hi, List.mem_map.mpr ⟨(s.2 - 1).toNat, List.mem_range.mpr (by omega), Prod.ext e.symm (by show (((s.2 - 1).toNat : Nat) : Int) + 1 = s.2; omega)⟩⟩
/-- what is true of every weave -/
structure WvOk (rs : List Rm) (W : Wv) : Prop where
  all : ∀ s, In W s ↔ s ∈ stepsR rs
  ord : ∀ a b, a ∈ stepsR rs → b ∈ stepsR rs → a.1 = b.1 → a.2 < b.2 → lvl W a < lvl W b
theorem PW.done {rs : List Rm} {W : Wv} {d : List Nat} (p : PW rs W d) (h : someN rs d = []) : WvOk rs W := by
  have full : ∀ i, i < rs.length → d.getD i 0 = ln rs i := fun i hi => by
    have := p.le i hi
    unfold someN at h
    rw [List.filter_eq_nil_iff] at h
    have := h i (List.mem_range.mpr hi)
    have : ¬ d.getD i 0 < ln rs i := fun z => this (decide_eq_true z)
    omega
  have all : ∀ s, In W s ↔ s ∈ stepsR rs := fun s => by
    rw [p.mem, mem_steps]
    constructor
    · rintro ⟨i, hi, r⟩; rw [full i hi] at r; exact ⟨i, hi, r⟩
    · rintro ⟨i, hi, r⟩; rw [← full i hi] at r; exact ⟨i, hi, r⟩
  exact ⟨all, fun a b ha hb => p.ord a b ((all a).mpr ha) ((all b).mpr hb)⟩
theorem rf_ok {rs : List Rm} (nd : (rs.map (·.1)).Nodup) {W W' : Wv} {d : List Nat} (h : Rf rs W d W') : PW rs W d → WvOk rs W' := by
  induction h with
  | done e => exact fun p => p.done e
  | step m _ ih => exact fun p => ih (p.step nd m)
theorem weave_ok {rs : List Rm} (nd : (rs.map (·.1)).Nodup) {W : Wv} (h : IsWeave rs W) : WvOk rs W := rf_ok nd h (PW.start rs)
end R0

/-! a weave comes exactly if there is no circle -/
namespace R0
open PySem Mr
open Classical in
theorem exists_min {α : Type} (le : α → α → Prop) (refl : ∀ a, le a a) (trans : ∀ a b c, le a b → le b c → le a c) : ∀ l : List α, l ≠ [] → ∃ a ∈ l, ∀ b ∈ l, le b a → le a b
  | [], h => (h rfl).elim
  | [x], _ => ⟨x, by simp, fun b hb _ => by rw [List.mem_singleton.mp hb]; exact refl x⟩
  | x :: y :: l, _ => by
    obtain ⟨a, ha, m⟩ := exists_min le refl trans (y :: l) (by simp)
    by_cases c : le x a ∧ ¬ le a x
    · refine ⟨x, by simp, fun b hb h => ?_⟩
      rcases List.mem_cons.mp hb with rfl | hb
      · exact refl b
      · exact trans _ _ _ c.1 (m b hb (trans _ _ _ h c.1))
    · refine ⟨a, List.mem_cons_of_mem _ ha, fun b hb h => ?_⟩
      rcases List.mem_cons.mp hb with rfl | hb
      · exact Classical.byContradiction fun z => c ⟨h, z⟩
      · exact m b hb h
def NoC (R : RD) : Prop := ∀ a b, PrC R a b → ∀ n, ¬ Wn (leadsF R) n b a
def Rch (R : RD) (a b : Stp) : Prop := ∃ n, Wn (leadsF R) n a b
theorem Rch.refl {R : RD} (a : Stp) : Rch R a a := ⟨0, rfl⟩
theorem Rch.trans {R : RD} {a b c : Stp} (h : Rch R a b) (k : Rch R b c) : Rch R a c := by
  obtain ⟨n, w⟩ := h
  obtain ⟨m, v⟩ := k
  exact ⟨n + m, wn_add w v⟩
theorem Rch.one {R : RD} {a b : Stp} (hb : b ∈ stepsR R.rooms) (h : leadB R a b = true) : Rch R a b := ⟨1, a, rfl, List.mem_filter.mpr ⟨hb, h⟩⟩
theorem lead_ahead {R : RD} {a b : Stp} (h : aheadB R a b = true) : leadB R a b = true := by unfold leadB; rw [h, Bool.true_or]
theorem lead_gong {R : RD} {j : Jn} (h : j ∈ R.gongs) : leadB R j.1 j.2 = true ∧ leadB R j.2 j.1 = true := by
  unfold leadB
  rw [decide_eq_true (show (j.1, j.2) ∈ R.gongs from h)]
  simp
theorem ahead_call {R : RD} {j : Jn} (h : j ∈ R.calls) : aheadB R j.1 j.2 = true := by
  unfold aheadB
  rw [decide_eq_true (show (j.1, j.2) ∈ R.calls from h), Bool.or_true]
theorem ahead_room {R : RD} {a b : Stp} (e : a.1 = b.1) (lt : a.2 < b.2) : aheadB R a b = true := by
  unfold aheadB
  rw [decide_eq_true e, decide_eq_true lt]; rfl
/-- rooms whose joins are of their steps -/
structure RIn (R : RD) : Prop where
  nd : (R.rooms.map (·.1)).Nodup
  g : ∀ j ∈ R.gongs, j.1 ∈ stepsR R.rooms ∧ j.2 ∈ stepsR R.rooms
  c : ∀ j ∈ R.calls, j.1 ∈ stepsR R.rooms ∧ j.2 ∈ stepsR R.rooms
structure Half (R : RD) (W : Wv) : Prop where
  cl : ∀ s t, In W s → t ∈ stepsR R.rooms → Rch R t s → In W t
  g : ∀ j ∈ R.gongs, In W j.1 → In W j.2 → lvl W j.1 = lvl W j.2
  c : ∀ j ∈ R.calls, In W j.1 → In W j.2 → lvl W j.1 < lvl W j.2
open Classical in
theorem grow {R : RD} (ri : RIn R) (no : NoC R) : ∀ (n : Nat) (W : Wv) (d : List Nat), rem R.rooms d ≤ n → PW R.rooms W d → Half R W → ∃ W', Rf R.rooms W d W' ∧ Half R W' := by
  intro n
  induction n with
  | zero => exact fun W d h p f => ⟨W, .done (rem_zero (Nat.le_zero.mp h)), f⟩
  | succ n ih =>
    intro W d h p f
    by_cases e0 : someN R.rooms d = []
    · exact ⟨W, .done e0, f⟩
    let S := stepsR R.rooms
    let Rl := S.filter fun s => decide (¬ In W s)
    have mR : ∀ s, s ∈ Rl ↔ s ∈ S ∧ ¬ In W s := fun s => by
      show s ∈ S.filter _ ↔ _
      rw [List.mem_filter, decide_eq_true_eq]
    have nextS : ∀ i, i < R.rooms.length → d.getD i 0 < ln R.rooms i → (nm R.rooms i, ((d.getD i 0 : Nat) : Int) + 1) ∈ Rl := fun i hi lt => by
      refine (mR _).mpr ⟨mem_steps.mpr ⟨i, hi, rfl, by show (1 : Int) ≤ ((d.getD i 0 : Nat) : Int) + 1; omega, by show ((d.getD i 0 : Nat) : Int) + 1 ≤ _; omega⟩, fun z => ?_⟩
      obtain ⟨j, hj, e, _, e2⟩ := (p.mem _).mp z
      obtain rfl := nm_inj ri.nd hi hj e
      have e2 : ((d.getD i 0 : Nat) : Int) + 1 ≤ ((d.getD i 0 : Nat) : Int) := e2
      omega
    have neR : Rl ≠ [] := by
      obtain ⟨i, hi⟩ := List.exists_mem_of_ne_nil _ e0
      unfold someN at hi
      obtain ⟨h1, h2⟩ := List.mem_filter.mp hi
      exact List.ne_nil_of_mem (nextS i (List.mem_range.mp h1) (of_decide_eq_true h2))
    obtain ⟨a, ha, mn⟩ := exists_min (Rch R) Rch.refl (fun _ _ _ h k => h.trans k) Rl neR
    let T : Stp → Prop := fun s => s ∈ Rl ∧ Rch R a s ∧ Rch R s a
    have closeT : ∀ t, t ∈ Rl → Rch R t a → T t := fun t ht r => ⟨ht, mn t ht r, r⟩
    let lot : List Int := (someI R.rooms d).filter fun x => decide (T (nm R.rooms x.toNat, ((d.getD x.toNat 0 : Nat) : Int) + 1))
    have inT : ∀ s, T s → ∃ i : Nat, (i : Int) ∈ lot ∧ i < R.rooms.length ∧ d.getD i 0 < ln R.rooms i ∧ s = (nm R.rooms i, ((d.getD i 0 : Nat) : Int) + 1) := fun s hs => by
      obtain ⟨sS, sW⟩ := (mR s).mp hs.1
      obtain ⟨i, hi, e, h1, h2⟩ := mem_steps.mp sS
      have lt : ((d.getD i 0 : Nat) : Int) < s.2 := Int.not_le.mp fun z => sW ((p.mem s).mpr ⟨i, hi, e, h1, z⟩)
      have lt2 : d.getD i 0 < ln R.rooms i := by omega
      have uR := nextS i hi lt2
      have es : s = (nm R.rooms i, ((d.getD i 0 : Nat) : Int) + 1) := by
        rcases Int.lt_or_le (((d.getD i 0 : Nat) : Int) + 1) s.2 with c | c
        · exfalso
          have ah : aheadB R (nm R.rooms i, ((d.getD i 0 : Nat) : Int) + 1) s = true := ahead_room e.symm c
          have r1 := Rch.one sS (lead_ahead ah)
          have tu := closeT _ uR (r1.trans hs.2.2)
          obtain ⟨m, w⟩ := hs.2.2.trans tu.2.1
          exact no _ s ⟨((mR _).mp uR).1, sS, ah⟩ m w
        · exact Prod.ext e (by show s.2 = _; omega)
      refine ⟨i, ?_, hi, lt2, es⟩
      refine List.mem_filter.mpr ⟨List.mem_map.mpr ⟨i, List.mem_filter.mpr ⟨List.mem_range.mpr hi, decide_eq_true lt2⟩, rfl⟩, decide_eq_true ?_⟩
      show T (nm R.rooms ((i : Int)).toNat, ((d.getD ((i : Int)).toNat 0 : Nat) : Int) + 1)
      rw [Int.toNat_natCast, ← es]
      exact hs
    have neL : lot ≠ [] := by
      obtain ⟨i, hi, _⟩ := inT a ⟨ha, Rch.refl a, Rch.refl a⟩
      exact List.ne_nil_of_mem hi
    have lotL : lot ∈ lotsL (someI R.rooms d) := (mem_lotsL _ _).mpr ⟨neL, List.filter_sublist ..⟩
    have memT : ∀ s, s ∈ lvOf R.rooms d lot ↔ T s := fun s => by
      rw [mem_lv lotL]
      constructor
      · rintro ⟨i, hi, _, _, rfl⟩
        have := of_decide_eq_true (List.mem_filter.mp hi).2
        rwa [Int.toNat_natCast] at this
      · exact inT s
    have p1 := p.step ri.nd lotL
    have newT : ∀ s, T s → ¬ In W s := fun s hs => ((mR s).mp hs.1).2
    have lT : ∀ s, T s → lvl (W ++ [lvOf R.rooms d lot]) s = W.length := fun s hs => lvl_new (newT s hs) ((memT s).mpr hs)
    have cases1 : ∀ s, In (W ++ [lvOf R.rooms d lot]) s → In W s ∨ T s := fun s hs => (in_snoc.mp hs).imp id (memT s).mp
    have f1 : Half R (W ++ [lvOf R.rooms d lot]) := by
      refine ⟨fun s t hs ht r => ?_, fun j hj h1 h2 => ?_, fun j hj h1 h2 => ?_⟩
      · rcases cases1 s hs with hs | hs
        · exact in_snoc.mpr (.inl (f.cl s t hs ht r))
        · by_cases c : In W t
          · exact in_snoc.mpr (.inl c)
          · exact in_snoc.mpr (.inr ((memT t).mpr (closeT t ((mR t).mpr ⟨ht, c⟩) (r.trans hs.2.2))))
      · obtain ⟨g1, g2⟩ := ri.g j hj
        obtain ⟨l1, l2⟩ := lead_gong hj
        rcases cases1 _ h1 with h1 | h1
        · rcases cases1 _ h2 with h2 | h2
          · rw [lvl_old h1, lvl_old h2]; exact f.g j hj h1 h2
          · exact (newT _ h2 (f.cl _ _ h1 g2 (Rch.one g1 l2))).elim
        · rcases cases1 _ h2 with h2 | h2
          · exact (newT _ h1 (f.cl _ _ h2 g1 (Rch.one g2 l1))).elim
          · rw [lT _ h1, lT _ h2]
      · obtain ⟨g1, g2⟩ := ri.c j hj
        have ah := ahead_call hj
        rcases cases1 _ h1 with h1 | h1
        · rcases cases1 _ h2 with h2 | h2
          · rw [lvl_old h1, lvl_old h2]; exact f.c j hj h1 h2
          · rw [lvl_old h1, lT _ h2]; exact lvl_lt h1
        · rcases cases1 _ h2 with h2 | h2
          · exact (newT _ h1 (f.cl _ _ h2 g1 (Rch.one g2 (lead_ahead ah)))).elim
          · obtain ⟨m, w⟩ := h2.2.2.trans h1.2.1
            exact (no _ _ ⟨g1, g2, ah⟩ m w).elim
    have lt := rem_lt p.len lotL
    obtain ⟨W', r, f'⟩ := ih _ _ (by omega) p1 f1
    exact ⟨W', .step lotL r, f'⟩
theorem fits_of {R : RD} {W : Wv} (h1 : ∀ j ∈ R.gongs, lvl W j.1 = lvl W j.2) (h2 : ∀ j ∈ R.calls, lvl W j.1 < lvl W j.2) : fitsB W R.gongs R.calls = true := by
  unfold fitsB
  rw [Bool.and_eq_true, List.all_eq_true, List.all_eq_true]
  exact ⟨fun j hj => decide_eq_true (h1 j hj), fun j hj => decide_eq_true (h2 j hj)⟩
theorem of_fits {W : Wv} {gs cs : List Jn} (h : fitsB W gs cs = true) : (∀ j ∈ gs, lvl W j.1 = lvl W j.2) ∧ ∀ j ∈ cs, lvl W j.1 < lvl W j.2 := by
  unfold fitsB at h
  rw [Bool.and_eq_true, List.all_eq_true, List.all_eq_true] at h
  exact ⟨fun j hj => of_decide_eq_true (h.1 j hj), fun j hj => of_decide_eq_true (h.2 j hj)⟩
theorem weave_exists {R : RD} (ri : RIn R) (no : NoC R) : ∃ W, IsWeave R.rooms W ∧ fitsB W R.gongs R.calls = true := by
  obtain ⟨W, r, f⟩ := grow ri no _ [] (zs R.rooms) (Nat.le_refl _) (PW.start _) ⟨fun s t h => (by obtain ⟨_, h, _⟩ := h; cases h), fun j _ h => (by obtain ⟨_, h, _⟩ := h; cases h), fun j _ h => (by obtain ⟨_, h, _⟩ := h; cases h)⟩
  have ok := weave_ok ri.nd (show IsWeave R.rooms W from r)
  exact ⟨W, r, fits_of (fun j hj => f.g j hj ((ok.all _).mpr (ri.g j hj).1) ((ok.all _).mpr (ri.g j hj).2)) fun j hj => f.c j hj ((ok.all _).mpr (ri.c j hj).1) ((ok.all _).mpr (ri.c j hj).2)⟩
theorem ahead_lt {R : RD} {W : Wv} (ok : WvOk R.rooms W) (ft : fitsB W R.gongs R.calls = true) {a b : Stp} (ha : a ∈ stepsR R.rooms) (hb : b ∈ stepsR R.rooms) (h : aheadB R a b = true) : lvl W a < lvl W b := by
  unfold aheadB at h
  rw [Bool.or_eq_true, Bool.and_eq_true] at h
  rcases h with ⟨h1, h2⟩ | h
  · exact ok.ord a b ha hb (of_decide_eq_true h1) (of_decide_eq_true h2)
  · exact (of_fits ft).2 (a, b) (of_decide_eq_true h)
theorem lead_le {R : RD} {W : Wv} (ok : WvOk R.rooms W) (ft : fitsB W R.gongs R.calls = true) {a b : Stp} (ha : a ∈ stepsR R.rooms) (hb : b ∈ stepsR R.rooms) (h : leadB R a b = true) : lvl W a ≤ lvl W b := by
  unfold leadB at h
  rw [Bool.or_eq_true, Bool.or_eq_true] at h
  rcases h with h | h | h
  · exact Nat.le_of_lt (ahead_lt ok ft ha hb h)
  · exact Nat.le_of_eq ((of_fits ft).1 (a, b) (of_decide_eq_true h))
  · exact Nat.le_of_eq ((of_fits ft).1 (b, a) (of_decide_eq_true h)).symm
theorem walk_le {R : RD} {W : Wv} (ok : WvOk R.rooms W) (ft : fitsB W R.gongs R.calls = true) {a : Stp} (ha : a ∈ stepsR R.rooms) : ∀ {n b}, Wn (leadsF R) n a b → lvl W a ≤ lvl W b := by
  intro n
  induction n with
  | zero => intro b h; rw [show a = b from h]; exact Nat.le_refl _
  | succ n ih =>
    intro b ⟨c, w, m⟩
    obtain ⟨hb, hl⟩ := List.mem_filter.mp m
    have hc : c ∈ stepsR R.rooms := wn_in (fun s _ t ht => (List.mem_filter.mp ht).1) ha w
    exact Nat.le_trans (ih w) (lead_le ok ft hc hb hl)
theorem noc_of {R : RD} (ri : RIn R) {W : Wv} (h : IsWeave R.rooms W) (ft : fitsB W R.gongs R.calls = true) : NoC R := fun a b ⟨ha, hb, hab⟩ n w => by
  have ok := weave_ok ri.nd h
  have h1 := ahead_lt ok ft ha hb hab
  have h2 := walk_le ok ft hb w
  omega
end R0

namespace R0
open PySem PySem.Spec PyProof.Rows L2 Hb St Sq Ow En Zp RZ Rd Xb Da Wa Tn Rg Dc Mr Ec
/-! ### the stack of weaves begun -/
structure StkAt (K : PySem.W.Frag) (fp wp : Addr) (H : Hp) (v : V) (e : Wv × List Nat) : Prop where
  ex : ∃ t a b xs, v = .ref t ∧ H t = some (.tup [.ref a, .ref b]) ∧ (t ≠ fp ∧ t ≠ wp) ∧ (a ≠ fp ∧ a ≠ wp) ∧ (b ≠ fp ∧ b ≠ wp) ∧ H a = some (.lst xs) ∧ All2 (fun v l => Dp K H v (lvD l)) xs e.1 ∧ H b = some (.lst (e.2.map fun i : Nat => V.int i))
theorem kept2_fix {p l : Addr} {H H' : Hp} {xs ys : List V} (e1 : H p = some (.lst xs)) (e2 : H l = some (.lst ys)) (k : Kept2 p l H H') : Fix H H' := fun b o e n => k b o e (fun z => n (by rw [z, e1] at e; exact .inl ⟨_, (Option.some.inj e).symm⟩)) fun z => n (by rw [z, e2] at e; exact .inl ⟨_, (Option.some.inj e).symm⟩)
theorem StkAt.on {K : PySem.W.Frag} {fp wp : Addr} {H H' : Hp} {v : V} {e : Wv × List Nat} (h : StkAt K fp wp H v e) (k : Kept2 fp wp H H') (f : Fix H H') : StkAt K fp wp H' v e := by
  obtain ⟨t, a, b, xs, rfl, ht, nt, na, nb, ha, al, hb⟩ := h.ex
  exact ⟨⟨t, a, b, xs, rfl, k _ _ ht nt.1 nt.2, nt, na, nb, k _ _ ha na.1 na.2, al.imp fun _ _ r => dp_fix f (noL_lv _) r, k _ _ hb nb.1 nb.2⟩⟩
def wt (rs : List Rm) (e : Wv × List Nat) : Nat := 8 ^ rem rs e.2
/-- what is true of the stack and of what is found -/
structure StI (rs : List Rm) (gs cs : List Jn) (fs : List Wv) (st : List (Wv × List Nat)) : Prop where
  iff : ∀ W, (W ∈ fs ∨ ∃ e ∈ st, Rf rs e.1 e.2 W ∧ fitsB W gs cs = true) ↔ IsWeave rs W ∧ fitsB W gs cs = true
  pw : ∀ e ∈ st, PW rs e.1 e.2
  few : fs.length + (st.map (wt rs)).sum ≤ 8 ^ 6
theorem wt_pos (rs : List Rm) (e : Wv × List Nat) : 1 ≤ wt rs e := Nat.pow_pos (by decide)
theorem len_wt (rs : List Rm) : ∀ st : List (Wv × List Nat), st.length ≤ (st.map (wt rs)).sum
  | [] => Nat.le_refl _
  | e :: st => by
    have := len_wt rs st
    have := wt_pos rs e
    simp only [List.map_cons, List.sum_cons, List.length_cons]
    omega
theorem lotsL_len {α : Type} : ∀ bs : List α, (lotsL bs).length + 1 = 2 ^ bs.length
  | [] => rfl
  | x :: r => by
    have ih := lotsL_len r
    show (([x] :: (lotsL r).map (x :: ·)) ++ lotsL r).length + 1 = 2 ^ (r.length + 1)
    rw [List.length_append, List.length_cons, List.length_map, Nat.pow_succ]
    omega
theorem some_subs {n : Nat} (h : n ≤ 3) (p : Nat → Bool) : ((List.range n).filter p).map (fun i : Nat => (i : Int)) ∈ subs3 := by
  have e : ∀ n, n ≤ 3 → n = 0 ∨ n = 1 ∨ n = 2 ∨ n = 3 := fun n h => by omega
  rcases e n h with rfl | rfl | rfl | rfl
  · exact (by decide : ([] : List Int) ∈ subs3)
  · show ([0].filter p).map _ ∈ _
    cases h0 : p 0 <;> simp [List.filter_cons, h0] <;> decide
  · show ([0, 1].filter p).map _ ∈ _
    cases h0 : p 0 <;> cases h1 : p 1 <;> simp [List.filter_cons, h0, h1] <;> decide
  · show ([0, 1, 2].filter p).map _ ∈ _
    cases h0 : p 0 <;> cases h1 : p 1 <;> cases h2 : p 2 <;> simp [List.filter_cons, h0, h1, h2] <;> decide
theorem rem_zs (rs : List Rm) : rem rs (zs rs) = (stepsR rs).length := by
  have h1 : rem rs (zs rs) = ((List.range rs.length).map fun i => ln rs i).sum := by
    unfold rem
    congr 1
    refine List.map_congr_left fun i _ => ?_
    rw [zs_get]; rfl
  have h2 : (List.range rs.length).map (fun i => ln rs i) = rs.map fun r => r.2.length := by
    refine List.ext_getElem? fun i => ?_
    rw [List.getElem?_map, List.getElem?_map]
    by_cases c : i < rs.length
    · rw [List.getElem?_range c, List.getElem?_eq_getElem c]
      unfold ln
      rw [Option.map_some, Option.map_some, List.getD_eq_getElem?_getD, List.getElem?_eq_getElem c]; rfl
    · rw [List.getElem?_eq_none (by simpa using c), List.getElem?_eq_none (by omega)]; rfl
  rw [h1, h2]
  unfold stepsR
  rw [List.length_flatMap]
  congr 1
  refine List.map_congr_left fun r _ => ?_
  rw [List.length_map, List.length_range]
def kid (rs : List Rm) (e : Wv × List Nat) (lot : List Int) : Wv × List Nat := (e.1 ++ [lvOf rs e.2 lot], later e.2 lot)
theorem kids_wt {rs : List Rm} (h3 : rs.length ≤ 3) {e : Wv × List Nat} (p : PW rs e.1 e.2) : ((((lotsL (someI rs e.2)).reverse).map (kid rs e)).map (wt rs)).sum < wt rs e := by
  have l7 : (lotsL (someI rs e.2)).length ≤ 7 := by
    have := lotsL_len (someI rs e.2)
    have l3 : (someI rs e.2).length ≤ 3 := by
      unfold someI someN
      rw [List.length_map]
      have := List.length_filter_le (fun i => decide (e.2.getD i 0 < ln rs i)) (List.range rs.length)
      rw [List.length_range] at this
      omega
    have := Nat.pow_le_pow_right (show 0 < 2 by decide) l3
    omega
  have sumle : ∀ (l : List (List Int)) (c : Nat), (∀ lot ∈ l, wt rs (kid rs e lot) ≤ c) → ((l.map (kid rs e)).map (wt rs)).sum ≤ l.length * c := fun l c => by
    induction l with
    | nil => intro _; simp
    | cons x l ih =>
      intro h
      have h1 := h x List.mem_cons_self
      have h2 := ih fun y hy => h y (List.mem_cons_of_mem _ hy)
      simp only [List.map_cons, List.sum_cons, List.length_cons]
      rw [Nat.add_mul, Nat.one_mul]
      omega
  cases hr : rem rs e.2 with
  | zero =>
    have := rem_zero hr
    unfold someI
    rw [this]
    show 0 < wt rs e
    exact wt_pos rs e
  | succ r =>
    have h1 := sumle (lotsL (someI rs e.2)).reverse (8 ^ r) fun lot hl => by
      have := rem_lt p.len (List.mem_reverse.mp hl)
      unfold wt kid
      exact Nat.pow_le_pow_right (by decide) (by show rem rs (later e.2 lot) ≤ r; omega)
    rw [List.length_reverse] at h1
    have h2 : (lotsL (someI rs e.2)).length * 8 ^ r ≤ 7 * 8 ^ r := Nat.mul_le_mul_right _ l7
    have h3 : wt rs e = 8 * 8 ^ r := by unfold wt; rw [hr, Nat.pow_succ, Nat.mul_comm]
    have h4 : 0 < 8 ^ r := Nat.pow_pos (by decide)
    omega
theorem StI.start {rs : List Rm} {gs cs : List Jn} (h : (stepsR rs).length ≤ 6) : StI rs gs cs [] [([], zs rs)] := by
  refine ⟨fun W => ?_, fun e he => by rw [List.mem_singleton.mp he]; exact PW.start rs, ?_⟩
  · constructor
    · rintro (h | ⟨e, he, r⟩)
      · cases h
      · rw [List.mem_singleton.mp he] at r; exact r
    · exact fun r => .inr ⟨_, List.mem_singleton.mpr rfl, r⟩
  · show 0 + (8 ^ rem rs (zs rs) + 0) ≤ _
    rw [rem_zs]
    have := Nat.pow_le_pow_right (show 0 < 8 by decide) h
    omega
/-- one turn: e is taken off, its lots are laid -/
theorem StI.turn {rs : List Rm} {gs cs : List Jn} (nd : (rs.map (·.1)).Nodup) (h3 : rs.length ≤ 3) {fs : List Wv} {st : List (Wv × List Nat)} {e : Wv × List Nat} (h : StI rs gs cs fs (st ++ [e])) :
    StI rs gs cs (if someN rs e.2 = [] ∧ fitsB e.1 gs cs = true then fs ++ [e.1] else fs) (st ++ ((lotsL (someI rs e.2)).reverse).map (kid rs e)) := by
  have pe := h.pw e (by simp)
  have kw := kids_wt h3 pe
  have few := h.few
  simp only [List.map_append, List.sum_append, List.map_cons, List.map_nil, List.sum_cons, List.sum_nil] at few
  refine ⟨fun W => ?_, fun k hk => ?_, ?_⟩
  · rw [← h.iff W]
    have inK : (∃ k ∈ ((lotsL (someI rs e.2)).reverse).map (kid rs e), Rf rs k.1 k.2 W ∧ fitsB W gs cs = true) ↔ (∃ lot ∈ lotsL (someI rs e.2), Rf rs (e.1 ++ [lvOf rs e.2 lot]) (later e.2 lot) W) ∧ fitsB W gs cs = true := by
      constructor
      · rintro ⟨k, hk, r, f⟩
        obtain ⟨lot, hl, rfl⟩ := List.mem_map.mp hk
        exact ⟨⟨lot, List.mem_reverse.mp hl, r⟩, f⟩
      · rintro ⟨⟨lot, hl, r⟩, f⟩
        exact ⟨_, List.mem_map.mpr ⟨lot, List.mem_reverse.mpr hl, rfl⟩, r, f⟩
    have inE : (∃ k ∈ st ++ [e], Rf rs k.1 k.2 W ∧ fitsB W gs cs = true) ↔ (∃ k ∈ st, Rf rs k.1 k.2 W ∧ fitsB W gs cs = true) ∨ (Rf rs e.1 e.2 W ∧ fitsB W gs cs = true) := by
      constructor
      · rintro ⟨k, hk, r⟩
        rcases List.mem_append.mp hk with hk | hk
        · exact .inl ⟨k, hk, r⟩
        · rw [List.mem_singleton.mp hk] at r; exact .inr r
      · rintro (⟨k, hk, r⟩ | r)
        · exact ⟨k, List.mem_append_left _ hk, r⟩
        · exact ⟨e, by simp, r⟩
    have inA : (∃ k ∈ st ++ ((lotsL (someI rs e.2)).reverse).map (kid rs e), Rf rs k.1 k.2 W ∧ fitsB W gs cs = true) ↔ (∃ k ∈ st, Rf rs k.1 k.2 W ∧ fitsB W gs cs = true) ∨ (∃ k ∈ ((lotsL (someI rs e.2)).reverse).map (kid rs e), Rf rs k.1 k.2 W ∧ fitsB W gs cs = true) := by
      constructor
      · rintro ⟨k, hk, r⟩
        exact (List.mem_append.mp hk).imp (fun h => ⟨k, h, r⟩) fun h => ⟨k, h, r⟩
      · rintro (⟨k, hk, r⟩ | ⟨k, hk, r⟩)
        · exact ⟨k, List.mem_append_left _ hk, r⟩
        · exact ⟨k, List.mem_append_right _ hk, r⟩
    rw [inA, inE, inK, rf_iff (W := e.1)]
    have inF : W ∈ (if someN rs e.2 = [] ∧ fitsB e.1 gs cs = true then fs ++ [e.1] else fs) ↔ W ∈ fs ∨ ((someN rs e.2 = [] ∧ W = e.1) ∧ fitsB W gs cs = true) := by
      by_cases c : someN rs e.2 = [] ∧ fitsB e.1 gs cs = true
      · rw [if_pos c, List.mem_append, List.mem_singleton]
        constructor
        · rintro (h | rfl)
          · exact .inl h
          · exact .inr ⟨⟨c.1, rfl⟩, c.2⟩
        · rintro (h | ⟨⟨_, rfl⟩, _⟩)
          · exact .inl h
          · exact .inr rfl
      · rw [if_neg c]
        constructor
        · exact .inl
        · rintro (h | ⟨⟨c1, rfl⟩, c2⟩)
          · exact h
          · exact (c ⟨c1, c2⟩).elim
    rw [inF]
    constructor
    · rintro ((h | ⟨h, f⟩) | h | ⟨h, f⟩)
      · exact .inl h
      · exact .inr (.inr ⟨.inl h, f⟩)
      · exact .inr (.inl h)
      · exact .inr (.inr ⟨.inr h, f⟩)
    · rintro (h | h | ⟨h | h, f⟩)
      · exact .inl (.inl h)
      · exact .inr (.inl h)
      · exact .inl (.inr ⟨h, f⟩)
      · exact .inr (.inr ⟨h, f⟩)
  · rcases List.mem_append.mp hk with hk | hk
    · exact h.pw k (List.mem_append_left _ hk)
    · obtain ⟨lot, hl, rfl⟩ := List.mem_map.mp hk
      exact pe.step nd (List.mem_reverse.mp hl)
  · rw [List.map_append, List.sum_append]
    split
    · rw [List.length_append, List.length_singleton]
      omega
    · omega
end R0

namespace R0
open PySem PySem.Spec PyProof.Rows L2 Hb St Sq Ow En Zp RZ Rd Xb Da Wa Tn Rg Dc Mr Ec
def stkD (e : Wv × List Nat) : PyData := .tuple [wlD e.1, .list ((e.2.map fun i : Nat => (i : Int)).map .int)]
theorem nat_ints (d : List Nat) : (d.map fun i : Nat => V.int i) = (d.map fun i : Nat => (i : Int)).map V.int := by rw [List.map_map]; rfl
theorem StkAt.dp {K : PySem.W.Frag} {fp wp : Addr} {H : Hp} {v : V} {e : Wv × List Nat} (h : StkAt K fp wp H v e) : Dp K H v (stkD e) := by
  obtain ⟨t, a, b, xs, rfl, ht, nt, na, nb, ha, al, hb⟩ := h.ex
  rw [nat_ints] at hb
  exact .tup (SqT.of ht) (.cons (.lst (SqL.of ha) (dpa_of (all2_mapR al))) (.cons (.lst (SqL.of hb) (dp_ints _)) .nil))
theorem sh_int3 (i : Int) : Sh 2 (.int i) := sh_int 2 i
theorem sh_ints3 (ns : List Int) : Sh 3 (.list (ns.map .int)) := sh_lst fun x _ => sh_int3 x
theorem sh_wl {w : Wv} (h : WvNm w) : Sh 3 (wlD w) := sh_lst fun l hl => sh_lv (h l hl)
theorem sh_stk {e : Wv × List Nat} (h : WvNm e.1) : Sh 4 (stkD e) := sh_two (sh_wl h) (sh_ints3 _)
theorem all2_snoc {α β : Type} {R : α → β → Prop} {xs : List α} {l : List β} {e : β} (h : All2 R xs (l ++ [e])) : ∃ ys y, xs = ys ++ [y] ∧ All2 R ys l ∧ R y e := by
  induction l generalizing xs with
  | nil =>
    cases h with
    | cons r t => cases t; exact ⟨[], _, rfl, .nil, r⟩
  | cons b l ih =>
    cases h with
    | cons r t =>
      obtain ⟨ys, y, rfl, h1, h2⟩ := ih t
      exact ⟨_ :: ys, y, rfl, .cons r h1, h2⟩
theorem last_of {α : Type} (xs : List α) (y : α) : (xs ++ [y])[(xs ++ [y]).length - 1]? = some y := by
  rw [List.length_append, List.length_singleton, Nat.add_sub_cancel, List.getElem?_append_right (Nat.le_refl _), Nat.sub_self]; rfl
theorem at_done {d : List Nat} {i : Nat} (h : i < d.length) : atI (d.map fun i : Nat => V.int i) ((i : Nat) : Int) = some (.int ((d.getD i 0 : Nat) : Int)) := by
  refine at_nat ?_
  rw [List.getElem?_map, List.getElem?_eq_getElem h, List.getD_eq_getElem?_getD, List.getElem?_eq_getElem h]; rfl
theorem any_int (l : List Int) (i : Int) : ((l.map PyData.int).any fun z => PyData.eqv z (.int i)) = decide (i ∈ l) := by
  induction l with
  | nil => simp
  | cons a r ih =>
    rw [List.map_cons, List.any_cons, ih, eqv_int, ← Bool.decide_or]
    exact decide_eq_decide.mpr (by rw [List.mem_cons, eq_comm])
theorem lvls_le {rs : List Rm} (h : (stepsR rs).length ≤ 6) {W : Wv} {d : List Nat} (p : PW rs W d) : W.length ≤ 1000 := by
  have := p.cnt
  rw [rem_zs] at this
  omega
theorem rd_neStk {K : PySem.W.Frag} {fp wp : Addr} {H : Hp} {Q : VK} {t : Addr} {zz : List V} {st : List (Wv × List Nat)} (al : All2 (StkAt K fp wp H) zz st) (ew : H wp = some (.lst zz)) (nw : ∀ e ∈ st, WvNm e.1) (ht : H t = some (.lst [])) (q : Q (.bl (!decide (st = []))) H) : rNeD K (.ref wp) (.ref t) H Q :=
  ⟨_, _, .lst (SqL.of ew) (dpa_of (all2_mapR (al.imp fun _ _ h => h.dp))), .lst (SqL.of ht) .nil, (sh_lst fun e he => sh_stk (nw e he)).ok (by decide), (sh_lst (n := 0) (f := PyData.int) (l := []) fun _ h => nomatch h).ok (by decide), by
    have : PyData.eqv (.list (st.map stkD)) (.list []) = decide (st = []) := by
      cases st with
      | nil => rfl
      | cons a b => rfl
    rw [this]; exact q⟩
section
variable {P : Program} {w : World} {K : PySem.W.Frag} {mg : Str → Option Value} {base : Heap} {C : Addr}
/-! ### _law_weaves -/
abbrev s__law_weaves : Stmt := top 46
theorem sc__law_weaves : FnScope ["rooms", "gongs", "calls", "found", "waiting", "weave", "done", "some", "lot", "level", "later", "at", "room", "many"] ["rooms", "gongs", "calls"] (defScope s__law_weaves) := ⟨rfl, rfl, rfl, by decide +kernel, rfl, by decide +kernel, by decide +kernel⟩
def spWeaves (K : PySem.W.Frag) : Sp := fun vs H Q _ => ∃ (r g c : Addr) (rs : List Rm) (gs cs : List Jn), vs = [.ref r, .ref g, .ref c] ∧ ListAt K H r rmD rs ∧ ListAt K H g jnD gs ∧ ListAt K H c jnD cs ∧ rs.length ≤ 3 ∧ (rs.map (·.1)).Nodup ∧ (∀ a ∈ rs, IsNm a.1) ∧ (stepsR rs).length ≤ 6 ∧ (∀ a ∈ rs, a.2.length ≤ 6) ∧
  (∀ j ∈ gs, j.1 ∈ stepsR rs ∧ j.2 ∈ stepsR rs) ∧ (∀ j ∈ cs, j.1 ∈ stepsR rs ∧ j.2 ∈ stepsR rs) ∧ gs.length ≤ 1000 ∧ cs.length ≤ 1000 ∧
  ∀ q H' ws, Same H H' → H q = none → ListAt K H' q wvD ws → (∀ W, W ∈ ws ↔ IsWeave rs W ∧ fitsB W gs cs = true) → Q (.ref q) H'
theorem ok_weaves {f : Addr} {fd : FuncData} (F : Fun K "_law_weaves" "_law_weaves" s__law_weaves f fd) (C__law_fits : Cl P w K mg base "_law_fits" ["weave", "gongs", "calls"] [] 2 (spFits K)) (C__law_lots : Cl P w K mg base "_law_lots" ["some"] [] 1 (spLots K)) (n_enumerate : mg "enumerate" = none) (n_len : mg "len" = none) (n_tuple : mg "tuple" = none) : FnOk P w K mg base CX0 3 f fd ["rooms", "gongs", "calls"] (spWeaves K) := by
  refine F.ok sc__law_weaves (fun vs H Q E h => ?_) (fun cdv A outer s H vs Q E hr h => ?_)
  · obtain ⟨_, _, _, _, _, _, rfl, _⟩ := h
    rfl
  · obtain ⟨r, g, c, rs, gs, cs, rfl, ⟨xr, er, ar⟩, ⟨xg, eg, ag⟩, ⟨xc, ec, ac⟩, r3, nd, nmR, s6, t6, jg, jc, lg, lc, q⟩ := h
    refine ⟨_, (pss_cons (ps_par (i := 3) (j := 4) (by rfl) sc__law_weaves.nd rfl rfl (by decide) rfl rfl (pa_cons (pe_lst pa_nil) (pa_cons (pe_lst (pa_cons (pe_tup (pa_cons (pe_lst pa_nil) (pa_cons (pe_lc (own := [("room", 12)]) (g := gName 12) rfl sc__law_weaves.nd (pi_seq (pv 0)) (blkOk_by (N := ["rooms", "gongs", "calls", "found", "waiting", "weave", "done", "some", "lot", "level", "later", "at", "room", "many"]) (sc := defScope s__law_weaves) (by decide +kernel)) (fun _ _ _ _ _ => pg_name (i := 12) sc__law_weaves.nd rfl (Or.inl rfl)) (fun _ _ _ _ _ => pts_nil) (fun _ _ _ _ _ => pe_int)) pa_nil))) pa_nil)) pa_nil)) (by rfl))
    (Evl.pss_cut (ps_while PassesOwn.never (pt_cmpR (op_neD hr.units) (pv 4) (pe_lst pa_nil) (nomark _))
      (pss_cons (ps_asg (pe_bm0 PySem.F.plainAttrs_list PySem.F.slot_list_pop PySem.F.type_list_pop mt_pop (pv 4)) (pg_tup rfl (pgs_cons (pg_name (i := 5) sc__law_weaves.nd rfl (Or.inl rfl)) (pgs_cons (pg_name (i := 6) sc__law_weaves.nd rfl (Or.inr rfl)) pgs_nil))))
    (Evl.pss_cut (ps_setLc (i := 7) (own := [("at", 11), ("room", 12)]) (g := gTup K 2 (gCons (gName 11) (gCons (gName 12) gNil))) (by rfl) sc__law_weaves.nd rfl rfl (sw_true rfl rfl rfl (by decide +kernel)) (pi_or (pi_enum (by rfl) n_enumerate (pa_cons (pv 0) pa_nil)) (pi_enumT (by rfl) n_enumerate (pa_cons (pv 0) pa_nil))) (blkOk_by (N := ["rooms", "gongs", "calls", "found", "waiting", "weave", "done", "some", "lot", "level", "later", "at", "room", "many"]) (sc := defScope s__law_weaves) (by decide +kernel)) (fun _ _ _ _ _ => pg_tup rfl (pgs_cons (pg_name (i := 11) sc__law_weaves.nd rfl (Or.inl rfl)) (pgs_cons (pg_name (i := 12) sc__law_weaves.nd rfl (Or.inl rfl)) pgs_nil))) (fun _ _ _ _ _ => pts_one (pt_cmpR op_lt (pe_ix (r := rIxL K) ix_list (pv 6) (pv 11) (fun _ _ => rfl)) (pe_callB (id := "len") (r := rLenK K) call_len_seq (by rfl) n_len PySem.boot_len (pa_cons (pe_ix (r := rIxT K) ix_tup (pv 12) pe_int (fun _ _ => rfl)) pa_nil)) (nomark _))) (fun _ _ _ _ _ => pv 11))
    (Evl.pss_cut (ps_if (PW.pt (pw_and (pt_cmpR (op_eqD hr.units) (pv 7) (pe_lst pa_nil) (nomark _)) (pw_and1 (pt_val (pe_use C__law_fits (hr.mono (by decide)) rfl (pa_cons (pv 5) (pa_cons (pv 1) (pa_cons (pv 2) pa_nil)))))))) (pss_one (ps_expr (pe_bm PySem.F.plainAttrs_list PySem.F.slot_list_append PySem.F.type_list_append mt_append (pv 3) (pa_cons (pe_callTy call_tuple_of (by rfl) n_tuple (by decide +kernel) (pa_cons (pv 5) pa_nil)) pa_nil)))) pss_nil)
    (pss_one (ps_for PassesOwn.never rfl (pi_seq (pe_revK K (pe_use C__law_lots (hr.mono (by decide)) rfl (pa_cons (pv 7) pa_nil)) (pe_un un_neg pe_int) (fun _ _ _ q => ⟨1, rfl, q⟩))) (pg_name (i := 8) sc__law_weaves.nd rfl (Or.inr rfl))
      (pss_cons (ps_set (i := 9) sc__law_weaves.nd rfl (Or.inl rfl) (pe_callTy call_tuple_of (by rfl) n_tuple (by decide +kernel) (pa_cons (pe_lc (own := [("at", 11)]) (g := gName 11) rfl sc__law_weaves.nd (pi_seq (pv 8)) (blkOk_by (N := ["rooms", "gongs", "calls", "found", "waiting", "weave", "done", "some", "lot", "level", "later", "at", "room", "many"]) (sc := defScope s__law_weaves) (by decide +kernel)) (fun _ _ _ _ _ => pg_name (i := 11) sc__law_weaves.nd rfl (Or.inl rfl)) (fun _ _ _ _ _ => pts_nil) (fun _ _ _ _ _ => pe_tup (pa_cons (pe_ix (r := rIxT K) ix_tup (pe_ix (r := rIxL K) ix_list (pv 0) (pv 11) (fun _ _ => rfl)) pe_int (fun _ _ => rfl)) (pa_cons (pe_op op_add (pe_ix (r := rIxL K) ix_list (pv 6) (pv 11) (fun _ _ => rfl)) pe_int) pa_nil)))) pa_nil)))
    (Evl.pss_cut (ps_setLc (i := 10) (own := [("at", 11), ("many", 13)]) (g := gTup K 2 (gCons (gName 11) (gCons (gName 13) gNil))) (by rfl) sc__law_weaves.nd rfl rfl (sw_true rfl rfl rfl (by decide +kernel)) (pi_or (pi_enum (by rfl) n_enumerate (pa_cons (pv 6) pa_nil)) (pi_enumT (by rfl) n_enumerate (pa_cons (pv 6) pa_nil))) (blkOk_by (N := ["rooms", "gongs", "calls", "found", "waiting", "weave", "done", "some", "lot", "level", "later", "at", "room", "many"]) (sc := defScope s__law_weaves) (by decide +kernel)) (fun _ _ _ _ _ => pg_tup rfl (pgs_cons (pg_name (i := 11) sc__law_weaves.nd rfl (Or.inl rfl)) (pgs_cons (pg_name (i := 13) sc__law_weaves.nd rfl (Or.inl rfl)) pgs_nil))) (fun _ _ _ _ _ => pts_nil) (fun _ _ _ _ _ => pe_ifExp (pt_cmpR (r := rInD K) (op_inD hr.units65) (pv 11) (pv 8) rfl) (pe_op op_add (pv 13) pe_int) (pv 13)))
    (pss_one (ps_expr (pe_bm PySem.F.plainAttrs_list PySem.F.slot_list_append PySem.F.type_list_append mt_append (pv 4) (pa_cons (pe_tup (pa_cons (pe_op op_cat (pv 5) (pe_lst (pa_cons (pv 9) pa_nil))) (pa_cons (pv 10) pa_nil))) pa_nil))))))))))))
    (pss_one (ps_ret (pv 3))))), ?_⟩
    have lar := ar.len
    refine ⟨by show 0 ≤ sizeLine; decide, fun fp hfp => ⟨by show 0 ≤ sizeLine; decide, fun a0 ha0 => ?_⟩⟩
    have s1 := same_new hfp (.lst [])
    have e1 : upd H fp (.lst []) fp = some (.lst []) := upd_same
    generalize upd H fp (.lst []) = H1 at s1 e1 ha0 ⊢
    have s2 := same_new ha0 (.lst [])
    have e2 : upd H1 a0 (.lst []) a0 = some (.lst []) := upd_same
    generalize upd H1 a0 (.lst []) = H2 at s2 e2 ⊢
    have s12 := s1.trans s2
    refine ⟨_, rfl, r, xr, rfl, SqX.lst (s12 _ _ er), fun J S WW z0 D hD => ?_⟩
    refine lc_mf (ds := rs) WW (fun _ => true) (fun _ y _ => y = .int 0) z0 hD lar (fun i x a H' ex ea s3 m => ⟨rfl, mf_yes m hD (fun _ _ _ _ _ h => h) ea (by omega) (Same.refl _) rfl rfl⟩) (fun H3 ys s3 e3 al => ?_)
    rw [Rd.filter_all] at al
    have ey := al.map_eq (f := fun _ : Rm => V.int 0) fun _ _ h => h
    have ez : (rs.map fun _ => V.int 0) = (zs rs).map fun i : Nat => V.int i := by unfold zs; rw [List.map_map]; rfl
    rw [ey, ez] at e3
    refine ⟨by show 2 ≤ sizeLine; decide, fun t0 ht0 => ⟨by show 1 ≤ sizeLine; decide, fun wp hwp => ⟨_, _, rfl, ?_⟩⟩⟩
    have s4 := same_new ht0 (.tup [V.ref a0, .ref D])
    have e4 : upd H3 t0 (.tup [V.ref a0, .ref D]) t0 = some (.tup [V.ref a0, .ref D]) := upd_same
    generalize upd H3 t0 (.tup [V.ref a0, .ref D]) = H4 at s4 e4 hwp ⊢
    have s5 := same_new hwp (.lst [V.ref t0])
    have e5 : upd H4 wp (.lst [V.ref t0]) wp = some (.lst [V.ref t0]) := upd_same
    have nfw : fp ≠ wp := ne_of_none (s4 _ _ (s3 _ _ (s2 _ _ e1))) hwp
    have hwp0 : H wp = none := none_back (((s12).trans s3).trans s4) hwp
    have n0 : StkAt K fp wp (upd H4 wp (.lst [V.ref t0])) (.ref t0) ([], zs rs) :=
      ⟨⟨t0, a0, D, [], rfl, s5 _ _ e4, ⟨(ne_of_none (s3 _ _ (s2 _ _ e1)) ht0).symm, ne_of_none e4 hwp⟩, ⟨(ne_of_none e1 ha0).symm, ne_of_none (s4 _ _ (s3 _ _ e2)) hwp⟩, ⟨(ne_of_none (s2 _ _ e1) hD).symm, ne_of_none (s4 _ _ e3) hwp⟩, s5 _ _ (s4 _ _ (s3 _ _ e2)), .nil, s5 _ _ (s4 _ _ e3)⟩⟩
    have s05 := ((s12.trans s3).trans s4).trans s5
    have ef5 := s5 _ _ (s4 _ _ (s3 _ _ (s2 _ _ e1)))
    generalize upd H4 wp (.lst [V.ref t0]) = H5 at s5 e5 n0 s05 ef5 ⊢
    have nmW : ∀ (e : Wv × List Nat), PW rs e.1 e.2 → WvNm e.1 := fun e p l hl s hs => by
      obtain ⟨i, hi, es, _⟩ := (p.mem s).mp ⟨l, hl, hs⟩
      rw [es]
      unfold nm
      rw [List.getD_eq_getElem?_getD, List.getElem?_eq_getElem hi]
      exact nmR _ (List.getElem_mem hi)
    have lnW : ∀ (e : Wv × List Nat) , True := fun _ => trivial
    refine ⟨fun σ H' => ∃ o5 o6 o7 o8 o9 o10 fs, σ = [some (.ref r), some (.ref g), some (.ref c), some (.ref fp), some (.ref wp), o5, o6, o7, o8, o9, o10, none, none, none] ∧ Same H H' ∧ ListAt K H' fp wvD fs ∧ (∀ W, W ∈ fs ↔ IsWeave rs W ∧ fitsB W gs cs = true), ?_, ?_⟩
    · refine ⟨fun m σ H' => ∃ o5 o6 o7 o8 o9 o10 fs st ys zz, σ = [some (.ref r), some (.ref g), some (.ref c), some (.ref fp), some (.ref wp), o5, o6, o7, o8, o9, o10, none, none, none] ∧ Same H H' ∧ H' fp = some (.lst ys) ∧ All2 (fun v W => Dp K H' v (wvD W)) ys fs ∧ H' wp = some (.lst zz) ∧ All2 (StkAt K fp wp H') zz st ∧ StI rs gs cs fs st ∧ m = (st.map (wt rs)).sum,
        ⟨_, none, none, none, none, none, none, [], [([], zs rs)], [], [.ref t0], rfl, s05, ef5, .nil, e5, .cons n0 .nil, StI.start s6, rfl⟩, ?_⟩
      rintro m σ H6 ⟨o5, o6, o7, o8, o9, o10, fs, st, ys, zz, rfl, s06, ef, alf, ew, alw, sti, rfl⟩
      have lalw := alw.len
      have lst := len_wt rs st
      have few := sti.few
      refine ⟨_, rfl, by show 0 ≤ sizeLine; decide, fun n1 hn1 => ?_⟩
      have s7 := same_new hn1 (.lst [])
      have en1 : upd H6 n1 (.lst []) n1 = some (.lst []) := upd_same
      have k7 : Kept2 fp wp H6 (upd H6 n1 (.lst [])) := Kept2.same s7
      have f7 := kept2_fix ef ew k7
      have alw7 := alw.imp fun _ _ h => StkAt.on h k7 f7
      have alf7 := alf.imp fun _ _ h => dp_fix f7 (noL_wv _) h
      have ew7 := s7 _ _ ew
      have ef7 := s7 _ _ ef
      have s07 := s06.trans s7
      generalize upd H6 n1 (.lst []) = H7 at s7 en1 k7 f7 alw7 alf7 ew7 ef7 s07 ⊢
      refine rd_neStk alw7 ew7 (fun e he => nmW e (sti.pw e he)) en1 ⟨_, rfl, ?_⟩
      rcases List.eq_nil_or_concat st with e | ⟨st', e, est⟩
      · subst e
        exact iteF ⟨o5, o6, o7, o8, o9, o10, fs, rfl, s07, ⟨ys, ef7, alf7⟩, fun W => by rw [← sti.iff W]; simp⟩
      rw [List.concat_eq_append] at est
      subst est
      have ne : (!decide (st' ++ [e] = [])) = true := by simp
      rw [ne]
      refine iteT ⟨_, fun _ _ h => h, ?_⟩
      obtain ⟨zz', v, rfl, alw', ve⟩ := all2_snoc alw7
      obtain ⟨t, a, b, xs, rfl, ht, nt, na, nb, ha, alx, hb⟩ := ve.ex
      have pe := sti.pw e (by simp)
      have lde : e.2.length = rs.length := pe.len
      have hdrop : (zz' ++ [V.ref t]).dropLast = zz' := List.dropLast_concat
      refine ⟨_, rfl, .inl ⟨rfl, _, SqL.of ew7⟩, wp, _, .ref t, rfl, rfl, ew7, last_of _ _, ?_⟩
      rw [hdrop]
      have k8 : Kept2 fp wp H7 (upd H7 wp (.lst zz')) := Kept2.l
      have f8 : Fix H7 (upd H7 wp (.lst zz')) := Fix.lst ew7
      have ew8 : upd H7 wp (.lst zz') wp = some (.lst zz') := upd_same
      have ef8 : upd H7 wp (.lst zz') fp = some (.lst ys) := by rw [upd_ne nfw]; exact ef7
      have s08 : Same H (upd H7 wp (.lst zz')) := fun x o eo => by rw [upd_ne (ne_of_none eo hwp0)]; exact s07 _ _ eo
      have alw8 := alw'.imp fun _ _ h => StkAt.on h k8 f8
      have alf8 := alf7.imp fun _ _ h => dp_fix f8 (noL_wv _) h
      have ht8 := k8 _ _ ht nt.1 nt.2
      have ha8 := k8 _ _ ha na.1 na.2
      have hb8 := k8 _ _ hb nb.1 nb.2
      have alx8 := alx.imp fun _ _ h => dp_fix f8 (noL_lv _) h
      generalize upd H7 wp (.lst zz') = H8 at k8 f8 ew8 ef8 s08 alw8 alf8 ht8 ha8 hb8 alx8 ⊢
      refine ⟨t, _, rfl, SqT.of ht8, rfl, _, _, rfl, _, _, rfl, rfl, ?_⟩
      have lsI : ((List.range xr.length).filter fun i => decide (e.2.getD i 0 < ln rs i)) = someN rs e.2 := by unfold someN; rw [lar]
      refine ⟨fun σ H' => ∃ dS, σ = [some (.ref r), some (.ref g), some (.ref c), some (.ref fp), some (.ref wp), some (.ref a), some (.ref b), some (.ref dS), o8, o9, o10, none, none, none] ∧ Same H8 H' ∧ H8 dS = none ∧ H' dS = some (.lst ((someI rs e.2).map V.int)), ?_, ?_⟩
      · refine .inl ⟨_, rfl, r, xr, rfl, SqL.of (s08 _ _ er), fun D2 hD2 => ?_⟩
        refine lc_mfe en_list (fun i => decide (e.2.getD i 0 < ln rs i)) (fun _ y i => y = .int (i : Nat)) (fun H' s => lstSame s (SqL.of (s08 _ _ er))) hD2 (fun i x T H' ex hi ei s1 m hT => ?_) (fun H' ys2 s1 e2 al2 => ?_)
        · obtain ⟨rm, erm, drm⟩ := ar.get ex
          have sT := same_new hT (.tup [.int (i : Nat), x])
          have s2 := s1.trans sT
          obtain ⟨b1, vt, rfl, hb1, dt⟩ := dp_rm (dp_same (s08.trans s2) drm)
          obtain ⟨tb, ts, rfl, htb, tl⟩ := dp_seq dt
          have hi2 : i < e.2.length := by omega
          have eln : ln rs i = ts.length := by
            unfold ln
            rw [List.getD_eq_getElem?_getD, erm, tl.len]; rfl
          refine ⟨T, _, rfl, SqT.of upd_same, rfl, _, _, rfl, _, _, rfl, rfl, rfl, _, rfl, _, rfl, b, _, ((i : Nat) : Int), _, rfl, rfl, SqL.of (s2 _ _ hb8), at_done hi2, _, rfl, b1, _, 1, _, rfl, rfl, hb1, at1, tb, ts, rfl, .inr htb, _, _, rfl, rfl, _, rfl, ?_⟩
          refine iteD (fun c => ⟨_, rfl, mf_yes m hD2 (fun _ _ _ _ _ h => h) ei (by simp; omega) sT (decide_eq_true (by omega)) rfl⟩) fun c => mf_no m (fun _ _ _ _ _ h => h) ei sT (decide_eq_false (by omega))
        · rw [lsI] at al2
          have ey := al2.map_eq (f := fun i : Nat => V.int (i : Nat)) fun _ _ h => h
          subst ey
          refine ⟨D2, rfl, s1, hD2, ?_⟩
          rw [e2]
          unfold someI
          rw [List.map_map]; rfl
      rintro σ H9 ⟨dS, rfl, s9, hdS, eS⟩
      have k9 := k8.trans (Kept2.same (p := fp) (l := wp) s9)
      have ndS : dS ≠ fp := fun z => by rw [z, ef8] at hdS; cases hdS
      have ndS2 : dS ≠ wp := fun z => by rw [z, ew8] at hdS; cases hdS
      have s09 := s08.trans s9
      have ew9 := s9 _ _ ew8
      have ef9 := s9 _ _ ef8
      have k89 : Kept2 fp wp H8 H9 := Kept2.same s9
      have f89 := kept2_fix ef8 ew8 k89
      have alw9 := alw8.imp fun _ _ h => StkAt.on h k89 f89
      have alf9 := alf8.imp fun _ _ h => dp_fix f89 (noL_wv _) h
      have ha9 := s9 _ _ ha8
      have hb9 := s9 _ _ hb8
      have alx9 := alx8.imp fun _ _ h => dp_same s9 h
      have lys := alf9.len
      have lzz := alw9.len
      have lfew : fs.length ≤ 8 ^ 6 ∧ st'.length ≤ 8 ^ 6 := by
        rw [List.length_append] at lst
        simp only [List.length_singleton] at lst
        omega
      have l86 : (8 : Nat) ^ 6 = 262144 := by decide
      refine ⟨fun σ H' => ∃ ys1, σ = [some (.ref r), some (.ref g), some (.ref c), some (.ref fp), some (.ref wp), some (.ref a), some (.ref b), some (.ref dS), o8, o9, o10, none, none, none] ∧ Same H H' ∧ Kept2 fp wp H9 H' ∧ H' wp = some (.lst zz') ∧ H' fp = some (.lst ys1) ∧ All2 (fun v W => Dp K H' v (wvD W)) ys1 (if someN rs e.2 = [] ∧ fitsB e.1 gs cs = true then fs ++ [e.1] else fs), ?_, ?_⟩
      · refine ⟨_, rfl, by show 0 ≤ sizeLine; decide, fun n2 hn2 => ?_⟩
        have s10 := same_new hn2 (.lst [])
        refine rd_eqNil (SqL.of (s10 _ _ eS)) (SqL.of upd_same) ⟨_, rfl, ?_⟩
        have k10 : Kept2 fp wp H9 (upd H9 n2 (.lst [])) := Kept2.same s10
        have f10 := kept2_fix ef9 ew9 k10
        have alf10 := alf9.imp fun _ _ h => dp_fix f10 (noL_wv _) h
        generalize upd H9 n2 (.lst []) = H10 at s10 k10 f10 alf10 ⊢
        by_cases c0 : someN rs e.2 = []
        · have c1 : someI rs e.2 = [] := by unfold someI; rw [c0]; rfl
          rw [decide_eq_true c1]
          have ok := pe.done c0
          have inW : ∀ s ∈ stepsR rs, ∃ l ∈ e.1, s ∈ l := fun s hs => (ok.all s).mpr hs
          have nmS := nm_step nmR
          refine iteT ⟨_, rfl, _, rfl, _, rfl, .ref a, g, c, e.1, gs, cs, rfl, ⟨a, xs, rfl, SqX.lst (s10 _ _ ha9), alx9.imp fun _ _ h => dp_same s10 h⟩, ⟨xg, s10 _ _ (s09 _ _ eg), ag.imp fun _ _ h => dp_same (s09.trans s10) h⟩, ⟨xc, s10 _ _ (s09 _ _ ec), ac.imp fun _ _ h => dp_same (s09.trans s10) h⟩, fun j hj => ⟨inW _ (jg j hj).1, inW _ (jg j hj).2⟩, fun j hj => ⟨inW _ (jc j hj).1, inW _ (jc j hj).2⟩, nmW e pe, fun j hj => ⟨nmS _ (jg j hj).1, nmS _ (jg j hj).2⟩, fun j hj => ⟨nmS _ (jc j hj).1, nmS _ (jc j hj).2⟩, lvls_le s6 pe, lg, lc, fun H11 s11 => ⟨_, rfl, ?_⟩⟩
          have s911 := s10.trans s11
          cases c2 : fitsB e.1 gs cs with
          | false =>
            refine iteF ⟨ys, rfl, s09.trans s911, Kept2.same s911, s911 _ _ ew9, s911 _ _ ef9, ?_⟩
            rw [if_neg (by simp)]
            exact alf10.imp fun _ _ h => dp_same s11 h
          | true =>
            refine iteT ⟨_, rfl, .inl ⟨rfl, _, SqL.of (s911 _ _ ef9)⟩, _, rfl, a, _, rfl, .inl ⟨SqL.of (s911 _ _ ha9), fun u hu => ⟨fp, ys, _, rfl, rfl, ?_, ?_, ?_⟩⟩⟩
            · exact (same_new hu (.tup xs)) _ _ (s911 _ _ ef9)
            · rw [lys, sizeLine_eq]; omega
            · have su := same_new hu (.tup xs)
              have eu : upd H11 u (.tup xs) u = some (.tup xs) := upd_same
              have nuf : u ≠ fp := (ne_of_none (s911 _ _ ef9) hu).symm
              generalize upd H11 u (.tup xs) = H12 at su eu ⊢
              have s912 := s911.trans su
              have fx : Fix H12 (upd H12 fp (.lst (ys ++ [V.ref u]))) := Fix.lst (s912 _ _ ef9)
              refine ⟨ys ++ [V.ref u], rfl, fun x o eo => ?_, (Kept2.same s912).trans Kept2.p, ?_, upd_same, ?_⟩
              · rw [upd_ne (ne_of_none eo hfp)]; exact s912 _ _ (s09 _ _ eo)
              · rw [upd_ne nfw.symm]; exact s912 _ _ ew9
              · rw [if_pos ⟨c0, rfl⟩]
                refine ((alf10.imp fun _ _ h => dp_same (s11.trans su) h).imp fun _ _ h => dp_fix fx (noL_wv _) h).app (.cons (dp_fix fx (noL_wv _) (.tup (SqT.of eu) (dpa_of (all2_mapR (alx9.imp fun _ _ h => dp_same s912 h))))) .nil)
        · have c1 : ¬ someI rs e.2 = [] := fun z => c0 (by unfold someI at z; exact List.map_eq_nil_iff.mp z)
          rw [decide_eq_false c1]
          refine iteF ⟨ys, rfl, s09.trans s10, k10, s10 _ _ ew9, s10 _ _ ef9, ?_⟩
          rw [if_neg fun z => c0 z.1]
          exact alf10
      rintro σ H10 ⟨ys1, rfl, s010, k910, ew10, ef10, alf10⟩
      have f910 := kept2_fix ef9 ew9 k910
      have alw10 := alw9.imp fun _ _ h => StkAt.on h k910 f910
      have ha10 := k910 _ _ ha9 na.1 na.2
      have hb10 := k910 _ _ hb9 nb.1 nb.2
      have alx10 := alx9.imp fun _ _ h => dp_fix f910 (noL_lv _) h
      have eS10 := k910 _ _ eS ndS ndS2
      have sub3 : someI rs e.2 ∈ subs3 := some_subs r3 _
      refine ⟨_, rfl, Int, V.int, PyData.int, someI rs e.2, lotsL (someI rs e.2), dS, rfl, eS10, lotK_ints K sub3, fun q0 xs0 H11 s11 hq0 eq0 al0 => ⟨q0, xs0, rfl, SqL.of eq0, fun lr hlr => ⟨lr, xs0.reverse, rfl, ?_⟩⟩⟩
      have s12' := same_new hlr (.lst xs0.reverse)
      have elr : upd H11 lr (.lst xs0.reverse) lr = some (.lst xs0.reverse) := upd_same
      have al12 : All2 (fun v (lot : List Int) => ∃ b, v = .ref b ∧ (b ≠ fp ∧ b ≠ wp) ∧ upd H11 lr (.lst xs0.reverse) b = some (.lst (lot.map V.int))) xs0.reverse (lotsL (someI rs e.2)).reverse := by
        refine all2_rev (al0.imp fun v lot h => ?_)
        obtain ⟨b, e1, h0, h1⟩ := h
        exact ⟨b, e1, ⟨(ne_of_none ef10 h0).symm, (ne_of_none ew10 h0).symm⟩, s12' _ _ h1⟩
      have s1012 := s11.trans s12'
      have nlr : lr ≠ fp ∧ lr ≠ wp := ⟨(ne_of_none (s11 _ _ ef10) hlr).symm, (ne_of_none (s11 _ _ ew10) hlr).symm⟩
      generalize upd H11 lr (.lst xs0.reverse) = H12 at s12' elr al12 s1012 ⊢
      have k1012 : Kept2 fp wp H10 H12 := Kept2.same s1012
      have f1012 := kept2_fix ef10 ew10 k1012
      have lotsN : (lotsL (someI rs e.2)).reverse.length ≤ 7 := by
        have h1 := lotsL_len (someI rs e.2)
        have h2 : (someI rs e.2).length ≤ 3 := by
          have : ∀ l ∈ subs3, l.length ≤ 3 := by decide
          exact this _ sub3
        have := Nat.pow_le_pow_right (show 0 < 2 by decide) h2
        rw [List.length_reverse]
        omega
      refine ⟨SqX.lst elr, fun J S WW z0 => ?_⟩
      refine for_sq WW (fun j σ H' => ∃ o8 o9 o10 zz2, σ = [some (.ref r), some (.ref g), some (.ref c), some (.ref fp), some (.ref wp), some (.ref a), some (.ref b), some (.ref dS), o8, o9, o10, none, none, none] ∧ Same H H' ∧ Kept2 fp wp H12 H' ∧ H' fp = some (.lst ys1) ∧ H' wp = some (.lst zz2) ∧ All2 (StkAt K fp wp H') zz2 (st' ++ ((lotsL (someI rs e.2)).reverse.take j).map (kid rs e)))
        ⟨o8, o9, o10, zz', rfl, s010.trans s1012, Kept2.refl _ _ _, s1012 _ _ ef10, s1012 _ _ ew10, by simpa using alw10.imp fun _ _ h => StkAt.on h k1012 f1012⟩ (fun j σ H' pv => by obtain ⟨_, _, _, _, _, _, k, _⟩ := pv; exact WW.keep (fun o eo => by rw [elr] at eo; rw [k _ _ elr nlr.1 nlr.2]; exact eo) z0) ?_ ?_
      · rintro j σ H13 y ey ⟨o8, o9, o10, zz2, rfl, s013, k13, ef13, ew13, alw13⟩
        obtain ⟨lot, el, bl, rfl, nbl, hbl⟩ := al12.get ey
        have hbl13 := k13 _ _ hbl nbl.1 nbl.2
        have k1013 := k1012.trans k13
        have ha13 := k1013 _ _ ha10 na.1 na.2
        have hb13 := k1013 _ _ hb10 nb.1 nb.2
        have f1013 := kept2_fix ef10 ew10 k1013
        have alx13 := alx10.imp fun _ _ h => dp_fix f1013 (noL_lv _) h
        have lotM : lot ∈ lotsL (someI rs e.2) := List.mem_reverse.mp (at_mem el)
        obtain ⟨_, lin⟩ := lot_in lotM
        have lot3 : lot.length ≤ 3 := by
          have h1 := ((mem_lotsL _ _).mp lotM).2.length_le
          have : ∀ l ∈ subs3, l.length ≤ 3 := by decide
          have := this _ sub3
          omega
        have er13 := s013 _ _ er
        refine ⟨_, rfl, bl, _, rfl, SqX.lst hbl13, fun J2 S2 W2 z2 D3 hD3 => ?_⟩
        refine lc_mf (ds := lot) W2 (fun _ => true) (fun H y (x : Int) => Dp K H y (stD (nm rs x.toNat, ((e.2.getD x.toNat 0 : Nat) : Int) + 1))) z2 hD3 (by rw [List.length_map]) (fun i y x H14 ey2 ex s14 m => ?_) (fun H14 yl s14 e14 al14 => ?_)
        · obtain rfl := at_map ey2 ex
          obtain ⟨k, rfl, hk, hlt⟩ := lin x (at_mem ex)
          obtain ⟨z, ez2⟩ : ∃ z, xr[k]? = some z := ⟨_, List.getElem?_eq_getElem (by omega)⟩
          obtain ⟨rm, erm, drm⟩ := ar.get ez2
          have s14' := s013.trans s14
          obtain ⟨b1, vt, rfl, hb1, dt⟩ := dp_rm (dp_same s14' drm)
          have enm : nm rs k = rm.1 := by
            unfold nm
            rw [List.getD_eq_getElem?_getD, erm]; rfl
          refine ⟨rfl, _, rfl, _, rfl, r, _, ((k : Nat) : Int), _, rfl, rfl, SqL.of (s14' _ _ er), at_nat ez2, b1, _, 0, _, rfl, rfl, hb1, at0, _, rfl, _, rfl, b, _, ((k : Nat) : Int), _, rfl, rfl, SqL.of (s14 _ _ hb13), at_done (by omega), _, _, rfl, rfl, by show 2 ≤ sizeLine; decide, fun u hu => ?_⟩
          refine mf_yes m hD3 (fun _ _ _ _ f h => dp_fix f (noL_st _) h) ex (by omega) (same_new hu _) rfl (.tup (SqT.of upd_same) ?_)
          rw [Int.toNat_natCast, enm]
          exact .cons (.str _) (.cons (.int _) .nil)
        rw [Rd.filter_all] at al14
        refine ⟨D3, _, rfl, .inl ⟨SqL.of e14, fun u hu => ?_⟩⟩
        have s15 := same_new hu (.tup yl)
        have eu : upd H14 u (.tup yl) u = some (.tup yl) := upd_same
        have dlv : Dp K (upd H14 u (.tup yl)) (.ref u) (lvD (lvOf rs e.2 lot)) := by
          have := dpa_of (all2_mapR (f := fun x : Int => stD (nm rs x.toNat, ((e.2.getD x.toNat 0 : Nat) : Int) + 1)) (al14.imp fun _ _ h => dp_same s15 h))
          unfold lvD lvOf
          rw [List.map_map]
          exact .tup (SqT.of eu) this
        generalize upd H14 u (.tup yl) = H15 at s15 eu dlv ⊢
        have s1315 := s14.trans s15
        have hb15 := s1315 _ _ hb13
        have hbl15 := s1315 _ _ hbl13
        refine ⟨fun σ H' => ∃ dL, σ = [some (.ref r), some (.ref g), some (.ref c), some (.ref fp), some (.ref wp), some (.ref a), some (.ref b), some (.ref dS), some (.ref bl), some (.ref u), some (.ref dL), none, none, none] ∧ Same H15 H' ∧ H15 dL = none ∧ H' dL = some (.lst ((later e.2 lot).map fun i : Nat => V.int i)), ?_, ?_⟩
        · refine .inl ⟨_, rfl, b, _, rfl, SqL.of hb15, fun D4 hD4 => ?_⟩
          refine lc_mfe en_list (fun _ => true) (fun _ y i => y = .int ((if ((i : Nat) : Int) ∈ lot then e.2.getD i 0 + 1 else e.2.getD i 0 : Nat) : Int)) (fun H' s => lstSame s (SqL.of hb15)) hD4 (fun i x T H' ex hi ei s1 m hT => ?_) (fun H' ys2 s1 e2 al2 => ?_)
          · have hi2 : i < e.2.length := by simpa using hi
            have ex2 : x = .int ((e.2.getD i 0 : Nat) : Int) := by
              rw [List.getElem?_map, List.getElem?_eq_getElem hi2] at ex
              rw [List.getD_eq_getElem?_getD, List.getElem?_eq_getElem hi2]
              exact (Option.some.inj ex).symm
            subst ex2
            have sT := same_new hT (.tup [.int (i : Nat), .int ((e.2.getD i 0 : Nat) : Int)])
            have s2 := s1.trans sT
            refine ⟨T, _, rfl, SqT.of upd_same, rfl, _, _, rfl, _, _, rfl, rfl, rfl, _, rfl, _, rfl, .int (i : Nat), lot.map .int, .int _, .lst (SqL.of (s2 _ _ hbl15)) (dp_ints lot), (sh_int 0 _).ok (by decide), shp_ints lot, _, rfl, ?_⟩
            rw [any_int]
            have lm : (List.range ((e.2.map fun i : Nat => V.int i).length)).length ≤ 100000 := by rw [List.length_range, List.length_map]; omega
            refine iteD (fun c => ⟨_, rfl, _, _, rfl, rfl, mf_yes m hD4 (fun _ _ _ _ _ h => h) ei lm sT rfl ?_⟩) fun c => ⟨_, rfl, mf_yes m hD4 (fun _ _ _ _ _ h => h) ei lm sT rfl ?_⟩
            · rw [if_pos c]; rfl
            · rw [if_neg c]
          · rw [Rd.filter_all] at al2
            have ey := al2.map_eq (f := fun i : Nat => V.int ((if ((i : Nat) : Int) ∈ lot then e.2.getD i 0 + 1 else e.2.getD i 0 : Nat) : Int)) fun _ _ h => h
            subst ey
            refine ⟨D4, rfl, s1, hD4, ?_⟩
            rw [e2]
            unfold later
            rw [List.map_map, List.length_map]; rfl
        rintro σ H16 ⟨dL, rfl, s16, hdL, eL⟩
        have s1316 := s1315.trans s16
        have ef16 := s1316 _ _ ef13
        have ew16 := s1316 _ _ ew13
        have lxs := alx13.len
        have lW := lvls_le s6 pe
        refine ⟨_, rfl, .inl ⟨rfl, _, SqL.of ew16⟩, _, rfl, _, rfl, by show 1 ≤ sizeLine; decide, fun l1 hl1 => ?_⟩
        have s17 := same_new hl1 (.lst [V.ref u])
        have e17 : upd H16 l1 (.lst [V.ref u]) l1 = some (.lst [V.ref u]) := upd_same
        generalize upd H16 l1 (.lst [V.ref u]) = H17 at s17 e17 ⊢
        refine ⟨a, l1, _, _, rfl, rfl, s17 _ _ (s1316 _ _ ha13), e17, by rw [lxs, sizeLine_eq]; simp; omega, fun w1 hw1 => ?_⟩
        have s18 := same_new hw1 (.lst (xs ++ [V.ref u]))
        have e18 : upd H17 w1 (.lst (xs ++ [V.ref u])) w1 = some (.lst (xs ++ [V.ref u])) := upd_same
        generalize upd H17 w1 (.lst (xs ++ [V.ref u])) = H18 at s18 e18 ⊢
        refine ⟨_, rfl, by show 2 ≤ sizeLine; decide, fun t1 ht1 => ?_⟩
        have s19 := same_new ht1 (.tup [V.ref w1, .ref dL])
        have e19 : upd H18 t1 (.tup [V.ref w1, .ref dL]) t1 = some (.tup [V.ref w1, .ref dL]) := upd_same
        have s1619 := (s17.trans s18).trans s19
        have nw1 : w1 ≠ fp ∧ w1 ≠ wp := ⟨(ne_of_none (s17 _ _ ef16) hw1).symm, (ne_of_none (s17 _ _ ew16) hw1).symm⟩
        have nt1 : t1 ≠ fp ∧ t1 ≠ wp := ⟨(ne_of_none (s18 _ _ (s17 _ _ ef16)) ht1).symm, (ne_of_none (s18 _ _ (s17 _ _ ew16)) ht1).symm⟩
        have ndL : dL ≠ fp ∧ dL ≠ wp := ⟨(ne_of_none (s1315 _ _ ef13) hdL).symm, (ne_of_none (s1315 _ _ ew13) hdL).symm⟩
        generalize upd H18 t1 (.tup [V.ref w1, .ref dL]) = H19 at s19 e19 s1619 ⊢
        have s1319 := s1316.trans s1619
        have ew19 := s1319 _ _ ew13
        have ef19 := s1319 _ _ ef13
        have k19 : Kept2 fp wp H13 (upd H19 wp (.lst (zz2 ++ [V.ref t1]))) := (Kept2.same s1319).trans Kept2.l
        have fx : Fix H19 (upd H19 wp (.lst (zz2 ++ [V.ref t1]))) := Fix.lst ew19
        have f19 : Fix H13 (upd H19 wp (.lst (zz2 ++ [V.ref t1]))) := (Fix.of s1319).trans fx
        have lz2 := alw13.len
        have k20 : Kept2 fp wp H19 (upd H19 wp (.lst (zz2 ++ [V.ref t1]))) := Kept2.l
        have tk : (lotsL (someI rs e.2)).reverse.take (j + 1) = (lotsL (someI rs e.2)).reverse.take j ++ [lot] := by rw [List.take_add_one, el]; rfl
        refine ⟨wp, zz2, _, rfl, rfl, ew19, ?_, _, _, _, _, rfl, fun x o eo => ?_, k13.trans k19, ?_, upd_same, ?_⟩
        · rw [lz2, List.length_append, List.length_map, List.length_take, sizeLine_eq]
          omega
        · rw [upd_ne (ne_of_none eo hwp0)]
          exact s1319 _ _ (s013 _ _ eo)
        · rw [upd_ne nfw]
          exact ef19
        · rw [tk, List.map_append, ← List.append_assoc]
          refine (alw13.imp fun _ _ h => StkAt.on h k19 f19).app (.cons ⟨⟨t1, w1, dL, xs ++ [V.ref u], rfl, k20 _ _ e19 nt1.1 nt1.2, nt1, nw1, ndL, k20 _ _ (s19 _ _ e18) nw1.1 nw1.2, ?_, k20 _ _ (s1619 _ _ eL) ndL.1 ndL.2⟩⟩ .nil)
          exact (alx13.imp fun _ _ h => dp_fix f19 (noL_lv _) h).app (.cons (dp_fix ((Fix.of (s16.trans s1619)).trans fx) (noL_lv _) dlv) .nil)
      · rintro σ H13 ⟨o8, o9, o10, zz2, rfl, s013, k13, ef13, ew13, alw13⟩
        rw [al12.len, List.take_of_length_le (Nat.le_refl _)] at alw13
        have kf := kept2_fix ef10 ew10 (k1012.trans k13)
        have turn := sti.turn nd r3
        refine ⟨_, ?_, some (.ref a), some (.ref b), some (.ref dS), o8, o9, o10, _, _, ys1, zz2, rfl, s013, ef13, alf10.imp fun _ _ h => dp_fix kf (noL_wv _) h, ew13, alw13, turn, rfl⟩
        rw [List.map_append, List.sum_append, List.map_append, List.sum_append]
        have := kids_wt r3 pe
        simp only [List.map_cons, List.map_nil, List.sum_cons, List.sum_nil]
        omega
    · rintro σ H6 ⟨o5, o6, o7, o8, o9, o10, fs, rfl, s06, lf, hiff⟩
      exact ⟨_, rfl, q fp H6 fs s06 hfp lf hiff⟩
end
end R0

/-! set(x), x a list or a tuple of tuples of ints and texts: how many unlike ones -/
namespace Su
open PySem PySem.Spec PyProof.Rows L2 PySem.Froz St
section
variable {P : Program} {w : World}
/-- the tuple of these keys stands at b -/
abbrev At (P : Program) (w : World) (h : Heap) (k : List Key) (b : Addr) : Prop := IsTupleKey (mixKind P w) h k b
/-- its hash -/
abbrev hk (P : Program) (w : World) (k : List Key) : Int := tupleKeyHash (mixKind P w) k
theorem At.on {h h' : Heap} {k : List Key} {b : Addr} (x : At P w h k b) (q : ∀ o, h.get? b = some o → h'.get? b = some o) : At P w h' k b := let ⟨o, its, n, e, r⟩ := x; ⟨o, its, n, q o e, r⟩
theorem At.noset {h : Heap} {k : List Key} {a b : Addr} {o : Obj} {es : Array (Int × Value)} {ep : Nat} {t : SetTable} (x : At P w h k b) (e : h.get? a = some o) (d : o.data = .set es ep t) : b ≠ a := fun z => by
  obtain ⟨o', its, n, e', _, d', _⟩ := x
  rw [z, e] at e'
  cases e'
  rw [d] at d'
  cases d'
/-- a key is an int or a text, by value -/
theorem key_val {k : Key} {v : Value} (h : (mixKind P w).is k v = true) : (∃ i t, v = .int i t) ∨ ∃ x t, v = .str x t := by
  cases k with
  | inl i => obtain ⟨t, e⟩ := Value.isInt_shape (show Value.isInt i v = true from h); exact .inl ⟨i, t, e⟩
  | inr x =>
    have h : (strKind P w).is x v = true := h
    cases v with
    | str y t => exact .inr ⟨y, t, rfl⟩
    | _ => exact nomatch h
theorem keys_val : ∀ {ks : List Key} {vs : List Value}, ItemsAre (mixKind P w) ks vs → ∀ v ∈ vs, (∃ i t, v = Value.int i t) ∨ ∃ x t, v = Value.str x t
  | _, _, .cons h r, v, m => (List.mem_cons.mp m).elim (fun e => e ▸ key_val h) fun m => keys_val r v m
variable {A : Around} {E : Value → Shared → Prop} {s : Shared}
theorem flat_class {v : Value} (h : (∃ i t, v = Value.int i t) ∨ ∃ x t, v = Value.str x t) (n : Nat) : ofAClassStatement n v = pure false := by
  rcases h with ⟨i, t, rfl⟩ | ⟨x, t, rfl⟩ <;> cases n <;> rfl
theorem class_at {k : List Key} {b : Addr} {Q : Bool → Shared → Prop} (x : At P w s.heap k b) (h : Q false s) : wpAny (model P w) A (ofAClassStatement 8 (.ref b)) Q E s := by
  have ty := x.typeIs
  obtain ⟨o, its, n, ho, _, hd, hi⟩ := x
  unfold ofAClassStatement
  refine wpAny_bind (wpAny_typeOf ty ?_)
  simp only [show (("tuple" : String) == "tuple") = true from by decide, if_true, Bool.not_true, Bool.false_eq_true, if_false]
  try refine wpAny_bind (wpAny_pure ?_)
  refine wpAny_bind (wpAny_seqItems ho hd (wpAny_bind ?_))
  show wpAny _ _ (forIn its _ _) _ _ s
  rw [← Array.forIn_toList]
  refine wpAny_forIn_list _ (fun rest r s' => r.1 = none ∧ s' = s ∧ ∀ v ∈ rest, (∃ i t, v = Value.int i t) ∨ ∃ x t, v = Value.str x t) _ (fun v rest r s' ⟨e, es, all⟩ => ?_) (fun ⟨r1, r2⟩ s' ⟨e, es, _⟩ => ?_) _ _ ⟨rfl, rfl, keys_val hi⟩
  · subst es
    rw [flat_class (all v List.mem_cons_self)]
    refine wpAny_bind (wpAny_pure ?_)
    simp only [Bool.false_eq_true, if_false]
    exact wpAny_pure ⟨rfl, rfl, fun u m => all u (List.mem_cons_of_mem _ m)⟩
  · simp only at e
    subst e es
    exact wpAny_pure h
theorem hash_at {k : List Key} {b : Addr} {Q : Bool → Shared → Prop} (x : At P w s.heap k b) (h : ∀ c, Q c s) : wpAny (model P w) A (hashByValue 8 (.ref b)) Q E s := by
  have ty := x.typeIs
  obtain ⟨o, its, n, ho, _, hd, hi⟩ := x
  unfold hashByValue
  refine wpAny_bind (wpAny_specialOf ty F.slot_tuple_hash.lookup ?_)
  show wpAny _ _ (seqItems? (.ref b) >>= _) _ _ s
  refine wpAny_bind (wpAny_seqItems ho hd (wpAny_bind ?_))
  show wpAny _ _ (forIn its _ _) _ _ s
  rw [← Array.forIn_toList]
  refine wpAny_forIn_list _ (fun rest r s' => r.1 = none ∧ s' = s ∧ ∀ v ∈ rest, (∃ i t, v = Value.int i t) ∨ ∃ x t, v = Value.str x t) _ (fun v rest r s' ⟨e, es, all⟩ => ?_) (fun ⟨r1, r2⟩ s' ⟨e, es, _⟩ => ?_) _ _ ⟨rfl, rfl, keys_val hi⟩
  · subst es
    rcases all v List.mem_cons_self with ⟨i, t, rfl⟩ | ⟨x, t, rfl⟩
    · rw [show hashByValue 7 (.int i t) = pure true from rfl]
      refine wpAny_bind (wpAny_pure ?_)
      simp only [Bool.not_true, Bool.false_eq_true, if_false]
      exact wpAny_pure ⟨rfl, rfl, fun u m => all u (List.mem_cons_of_mem _ m)⟩
    · rw [show hashByValue 7 (.str x t) = pure false from rfl]
      refine wpAny_bind (wpAny_pure ?_)
      simp only [Bool.not_false, if_true]
      exact wpAny_pure (wpAny_pure (h _))
  · simp only at e
    subst e es
    exact wpAny_pure (h _)
/-- a search among tuples of keys shows nothing of the table -/
theorem unseen {k : List Key} {b : Addr} {Q : Bool → Shared → Prop} (x : At P w s.heap k b) {ys : List Value} (hy : ∀ y ∈ ys, ∃ k' c, y = Value.ref c ∧ At P w s.heap k' c) (h : Q false s) : wpAny (model P w) A (searchCouldBeSeen (.ref b) ys) Q E s := by
  unfold searchCouldBeSeen
  refine wpAny_bind (wpAny_forIn_list _ (fun rest r s' => r.1 = none ∧ s' = s ∧ ∀ y ∈ rest, ∃ k' c, y = Value.ref c ∧ At P w s.heap k' c) _ (fun v rest r s' ⟨e, es, all⟩ => ?_) (fun ⟨r1, r2⟩ s' ⟨e, es, _⟩ => ?_) _ _ ⟨rfl, rfl, hy⟩)
  · subst es
    obtain ⟨k', c, rfl, hc⟩ := all v List.mem_cons_self
    have more : ∀ y ∈ rest, ∃ k' c, y = Value.ref c ∧ At P w s'.heap k' c := fun u m => all u (List.mem_cons_of_mem _ m)
    dsimp only
    by_cases cv : (b == c || (carriedByValue (.ref b) && carriedByValue (.ref c))) = true
    · exact wp_if_pos cv (wpAny_pure ⟨rfl, rfl, more⟩)
    · refine wp_if_neg cv (wpAny_bind (wpAny_eqIsQuiet_tuple x ?_))
      simp only [Bool.not_true, Bool.false_eq_true, if_false]
      refine wpAny_bind (wpAny_eqIsQuiet_tuple hc ?_)
      simp only [Bool.not_true, Bool.false_eq_true, if_false]
      refine wpAny_bind (class_at x ?_)
      simp only [Bool.false_eq_true, if_false]
      refine wpAny_bind (class_at hc ?_)
      simp only [Bool.false_eq_true, if_false]
      exact wpAny_pure ⟨rfl, rfl, more⟩
  · simp only at e
    subst e es
    exact wpAny_pure h
/-! ### the set -/
/-- the table's rows: each key's hash and the tuple that came first with it -/
def rws (P : Program) (w : World) (L : List (Addr × List Key)) : List (Int × Value) := L.map fun p => (hk P w p.2, Value.ref p.1)
structure SetK (P : Program) (w : World) (h : Heap) (a : Addr) (L : List (Addr × List Key)) (es : Array (Int × Value)) (ep : Nat) (t : SetTable) : Prop where
  obj : ∃ o, h.get? a = some o ∧ o.ExactSet ∧ o.data = .set es ep t
  rw : es.toList = rws P w L
  tab : TabOk t (L.map fun p => hk P w p.2)
  un : (L.map (·.2)).Nodup
  el : ∀ p ∈ L, At P w h p.2 p.1
  led : w.params.followText "set-order" = true ∨ t.led = true
  room : L.length * 5 < t.mask * 3
  few : L.length < 64
theorem rws_len (L : List (Addr × List Key)) : (rws P w L).length = L.length := List.length_map _
variable {a : Addr} {L : List (Addr × List Key)} {es : Array (Int × Value)} {ep : Nat} {t : SetTable}
theorem SetK.size (R : SetK P w s.heap a L es ep t) : es.size = L.length := by rw [← Array.length_toList, R.rw, rws_len]
theorem SetK.psz (R : SetK P w s.heap a L es ep t) : t.place.size = L.length := R.tab.sz.trans (List.length_map _)
theorem SetK.fits (R : SetK P w s.heap a L es ep t) : t.fits es.size = true := by
  have h1 := R.psz; have h2 := R.size; have h3 := R.room
  unfold SetTable.fits SetTable.fill
  rw [R.tab.dm, Bool.and_eq_true, beq_iff_eq, decide_eq_true_eq]
  exact ⟨h1.trans h2.symm, by show t.place.size + 0 ≤ t.mask; omega⟩
theorem SetK.at_ (R : SetK P w s.heap a L es ep t) {i : Nat} {p : Addr × List Key} (h : L[i]? = some p) : es[i]? = some (hk P w p.2, Value.ref p.1) := by
  rw [← Array.getElem?_toList, R.rw]
  unfold rws
  rw [List.getElem?_map, h] <;> rfl
theorem dummy_nth (m : Nat) : ∀ (n : Nat) (p : SetTable.Probe), p.dummy = none → (nth m p n).dummy = none
  | 0, _, h => h
  | n + 1, p, h => dummy_nth m n (adv m p) (by unfold adv; split <;> exact h)
/-- what the table says of one more look, from the c-th step of the way on -/
theorem look {hs : List Int} (T : TabOk t hs) (hashAt : Nat → Int) (q : Int) {K c : Nat} (hKf : K < 10 * SetTable.turns t.mask) (hK : way t.mask q K ∉ t.place.toList) (hb : ∀ n, n < K → way t.mask q n ∈ t.place.toList) (hc : c ≤ K) :
    (∃ n i, c ≤ n ∧ n < K ∧ t.place.toList[i]? = some (way t.mask q n) ∧ (∀ n' i', c ≤ n' → n' < n → t.place.toList[i']? = some (way t.mask q n') → hashAt i' ≠ q) ∧
      t.probe hashAt q (nth t.mask (runAt t.mask (SetTable.bits q % (t.mask + 1)) (SetTable.bits q)) c) = some (.candidate (way t.mask q n) i (nth t.mask (runAt t.mask (SetTable.bits q % (t.mask + 1)) (SetTable.bits q)) (n + 1)))) ∨
    ((∀ n' i', c ≤ n' → n' < K → t.place.toList[i']? = some (way t.mask q n') → hashAt i' ≠ q) ∧
      t.probe hashAt q (nth t.mask (runAt t.mask (SetTable.bits q % (t.mask + 1)) (SetTable.bits q)) c) = some (.empty (way t.mask q K) none)) := by
  generalize hp0 : runAt t.mask (SetTable.bits q % (t.mask + 1)) (SetTable.bits q) = p0
  have step : ∀ n, nth t.mask (nth t.mask p0 c) n = nth t.mask p0 (c + n) := fun n => (nth_add t.mask c p0 n).symm
  have stepj : ∀ n, (nth t.mask (nth t.mask p0 c) n).j = way t.mask q (c + n) := fun n => by rw [step, ← hp0]
  have g := go_spec t T.ris T.dm hashAt q (10 * SetTable.turns t.mask) (K - c) (nth t.mask p0 c) (dummy_nth _ _ _ (by rw [← hp0]; rfl)) (by omega) (fun n hn => by rw [stepj]; exact hb _ (by omega)) (by rw [stepj, show c + (K - c) = K from by omega]; exact hK)
  rcases g with ⟨n, i, hn, hi, _, no, e⟩ | ⟨no, e⟩
  · refine .inl ⟨c + n, i, by omega, by omega, by rw [← stepj]; exact hi, fun n' i' h1 h2 e' => no (n' - c) i' (by omega) (by rw [stepj, show c + (n' - c) = n' from by omega]; exact e'), ?_⟩
    rw [stepj, step] at e
    exact e
  · refine .inr ⟨fun n' i' h1 h2 e' => no (n' - c) i' (by omega) (by rw [stepj, show c + (n' - c) = n' from by omega]; exact e'), ?_⟩
    rw [stepj, show c + (K - c) = K from by omega] at e
    exact e
/-- the search for a tuple that is to be added -/
theorem seek (R : SetK P w s.heap a L es ep t) {b : Addr} {k : List Key} (x : At P w s.heap k b) (hu : A.units < cLine) {K : Nat} (hKf : K < 10 * SetTable.turns t.mask) (hK : way t.mask (hk P w k) K ∉ t.place.toList) (hKb : ∀ n, n < K → way t.mask (hk P w k) n ∈ t.place.toList)
    {Q : SetFound → Shared → Prop} (yes : k ∈ L.map (·.2) → Q (.there none) s) (no : k ∉ L.map (·.2) → Q (.free (way t.mask (hk P w k) K) false) s) :
    ∀ (f c : Nat) (stand : Option SetTable.Probe), stand.getD (t.probeStart (hk P w k)) = nth t.mask (runAt t.mask (SetTable.bits (hk P w k) % (t.mask + 1)) (SetTable.bits (hk P w k))) c → c ≤ K → K - c < f →
      (∀ (i : Nat) p, L[i]? = some p → p.2 = k → ∃ n, c ≤ n ∧ n < K ∧ t.place.toList[i]? = some (way t.mask (hk P w k) n)) → wpAny (model P w) A (setSearchFrom a (.ref b) (hk P w k) true f stand) Q E s := by
  intro f
  induction f with
  | zero => exact fun c stand _ _ h => absurd h (Nat.not_lt_zero _)
  | succ f ih =>
    intro c stand st hc hf re
    obtain ⟨o, ho, hex, hd⟩ := R.obj
    have hash : ∀ (i : Nat) p, L[i]? = some p → (fun i => (es[i]?.map (·.1)).getD 0) i = hk P w p.2 := fun i p h => by
      show (es[i]?.map (·.1)).getD 0 = _
      rw [R.at_ h] <;> rfl
    rw [setSearchFrom_succ]
    refine wpAny_bind (wpAny_setState_of ho hd R.fits ?_)
    dsimp only
    refine wp_if_neg (by unfold SetTable.gaveWay; rw [mask_odd R.tab.mok]; decide) ?_
    try refine wpAny_bind (wpAny_pure ?_)
    rw [st]
    rcases look R.tab (fun i => (es[i]?.map (·.1)).getD 0) (hk P w k) hKf hK hKb hc with ⟨n, i, h1, h2, hi, hno, pr⟩ | ⟨hno, pr⟩
    · rw [pr]
      dsimp only
      have lt : i < L.length := by
        have := (List.getElem?_eq_some_iff.mp hi).1
        rw [Array.length_toList] at this
        rw [← R.psz]; exact this
      obtain ⟨p, hp⟩ : ∃ p, L[i]? = some p := ⟨_, List.getElem?_eq_getElem lt⟩
      have pm := List.mem_of_getElem? hp
      have xp := R.el p pm
      have rest : wpAny (model P w) A (searchRest a (.ref b) (hk P w k) true f es t (way t.mask (hk P w k) n) i (nth t.mask (runAt t.mask (SetTable.bits (hk P w k) % (t.mask + 1)) (SetTable.bits (hk P w k))) (n + 1))) Q E s := by
        unfold searchRest
        rw [R.at_ hp]
        dsimp only
        refine wpAny_bind (wpAny_holding (wpAny_eqBool_tuple hu xp x ?_))
        refine wpAny_bind (wpAny_setState_of ho hd R.fits ?_)
        dsimp only
        by_cases e : p.2 = k
        · exact wp_if_pos (by simp [e]) (wpAny_pure (yes (List.mem_map.mpr ⟨p, pm, e⟩)))
        · refine wp_if_neg (by simp [e]) ?_
          try refine wpAny_bind (wpAny_pure ?_)
          have live := slot_live R.tab.ris hi
          rw [sameMem]
          dsimp only
          simp only [if_true, live, R.at_ hp]
          refine wpAny_bind (wpAny_isSame_ref_self (wpAny_bind (wpAny_pure ?_)))
          simp only [if_true]
          refine wp_if_neg (by simp [e]) (ih (n + 1) _ rfl (by omega) (by omega) fun i0 p0 e0 k0 => ?_)
          obtain ⟨n0, g1, g2, g3⟩ := re i0 p0 e0 k0
          refine ⟨n0, ?_, g2, g3⟩
          rcases Nat.lt_trichotomy n0 n with z | z | z
          · exact (hno n0 i0 g1 z g3 ((hash i0 p0 e0).trans (congrArg (hk P w) k0))).elim
          · subst z
            have l0 := slot_live R.tab.ris g3
            rw [live] at l0
            injection l0 with l0
            subst l0
            rw [hp] at e0
            cases e0
            exact (e k0).elim
          · exact z
      by_cases ld : t.led = true
      · refine wp_if_neg (by simp [ld]) ?_
        try refine wpAny_bind (wpAny_pure ?_)
        exact rest
      · refine wp_if_pos (by simp [ld]) (wpAny_bind (unseen x (fun y hy => ?_) ?_))
        · obtain ⟨e, he, ee⟩ := List.mem_map.mp hy
          have m1 : e ∈ es.toList := by
            have : e ∈ es ∧ e.1 = hk P w k := by simpa using he
            simpa using this.1
          rw [R.rw] at m1
          obtain ⟨p2, m2, rfl⟩ := List.mem_map.mp m1
          exact ⟨p2.2, p2.1, ee.symm, R.el p2 m2⟩
        · refine wp_if_neg (by decide) ?_
          try refine wpAny_bind (wpAny_pure ?_)
          exact rest
    · rw [pr]
      dsimp only
      refine wpAny_pure (no fun m => ?_)
      obtain ⟨p0, m0, k0⟩ := List.mem_map.mp m
      obtain ⟨i0, e0⟩ := List.getElem?_of_mem m0
      obtain ⟨n0, g1, g2, g3⟩ := re i0 p0 e0 k0
      exact hno n0 i0 g1 g2 g3 ((hash i0 p0 e0).trans (congrArg (hk P w) k0))
theorem seek0 (R : SetK P w s.heap a L es ep t) {b : Addr} {k : List Key} (x : At P w s.heap k b) (hu : A.units < cLine) {Q : SetFound → Shared → Prop} (yes : k ∈ L.map (·.2) → Q (.there none) s)
    (no : ∀ K, k ∉ L.map (·.2) → way t.mask (hk P w k) K ∉ t.place.toList → (∀ n, n < K → way t.mask (hk P w k) n ∈ t.place.toList) → Q (.free (way t.mask (hk P w k) K) false) s) :
    wpAny (model P w) A (setSearch a (.ref b) (hk P w k) true) Q E s := by
  have room := R.room
  obtain ⟨K, hKf, hK, hKb⟩ := R.tab.first (by rw [List.length_map]; omega) (hk P w k)
  have small : K < 100000 := by
    have : 10 * SetTable.turns t.mask ≤ 1420 := by
      unfold SetTable.turns
      rcases R.tab.mok with e | e | e <;> omega
    omega
  unfold setSearch
  refine seek R x hu hKf hK hKb yes (fun n => no K n hK hKb) 100000 0 none rfl (Nat.zero_le _) (by omega) fun i p hp e => ?_
  have lt : i < t.place.toList.length := by
    rw [Array.length_toList, R.psz]
    exact (List.getElem?_eq_some_iff.mp hp).1
  have hj := List.getElem?_eq_getElem lt
  obtain ⟨n, hn, e2⟩ := R.tab.before hK (by rw [List.getElem?_map, hp, ← e]; rfl) hj
  exact ⟨n, Nat.zero_le _, hn, by rw [hj, e2]⟩
theorem fm_range {α : Type} (L : List α) : (List.range L.length).filterMap (fun i => L[i]?) = L := by
  refine List.ext_getElem? fun j => ?_
  have : ∀ n, n ≤ L.length → (List.range n).filterMap (fun i => L[i]?) = L.take n := fun n => by
    induction n with
    | zero => intro _; rfl
    | succ n ih =>
      intro h
      rw [List.range_succ, List.filterMap_append, ih (Nat.le_of_lt h), List.take_add_one]
      rw [List.filterMap_cons_some (List.getElem?_eq_getElem (show n < L.length from h)), List.getElem?_eq_getElem (show n < L.length from h)]
      rfl
  rw [this L.length (Nat.le_refl _), List.take_length]
theorem reorder (R : es.toList = rws P w L) (order : Array Nat) (pm : order.toList.Perm (List.range L.length)) :
    ∃ M, (order.filterMap (es[·]?)).toList = rws P w M ∧ M.Perm L ∧ M.map (fun p => hk P w p.2) = order.toList.map fun i => (es.map (·.1)).getD i 0 := by
  have get : ∀ i (h : i < L.length), es[i]? = some (hk P w (L[i]).2, Value.ref (L[i]).1) := fun i h => by
    rw [← Array.getElem?_toList, R]
    unfold rws
    rw [List.getElem?_map, List.getElem?_eq_getElem h] <;> rfl
  have sz : es.size = L.length := by rw [← Array.length_toList, R, rws_len]
  have go : ∀ l : List Nat, (∀ i ∈ l, i < L.length) → l.filterMap (fun i => es[i]?) = rws P w (l.filterMap fun i => L[i]?) ∧ (l.filterMap fun i => L[i]?).map (fun p => hk P w p.2) = l.map fun i => (es.map (·.1)).getD i 0 := fun l => by
    induction l with
    | nil => exact fun _ => ⟨rfl, rfl⟩
    | cons i l ih =>
      intro h
      have hi := h i List.mem_cons_self
      obtain ⟨e1, e2⟩ := ih fun j m => h j (List.mem_cons_of_mem _ m)
      rw [List.filterMap_cons_some (get i hi), List.filterMap_cons_some (List.getElem?_eq_getElem hi), e1, List.map_cons, List.map_cons, e2]
      refine ⟨rfl, ?_⟩
      have : (es.map (·.1))[i]? = some (hk P w (L[i]).2) := by rw [Array.getElem?_map, get i hi] <;> rfl
      simp [Array.getD_eq_getD_getElem?, this]
  obtain ⟨e1, e2⟩ := go order.toList fun i m => List.mem_range.mp (pm.mem_iff.mp m)
  refine ⟨_, by first | (rw [Array.toList_filterMap]; exact e1) | simpa using e1, ?_, e2⟩
  have := pm.filterMap fun i => L[i]?
  rw [fm_range] at this
  exact this
theorem relay {o : Obj} (ho : s.heap.get? a = some o) (hex : o.ExactSet) (hd : o.data = .set es ep t) (R : es.toList = rws P w L) (psz : t.place.size = es.size) (hdm : t.dummies = #[]) (hfl : es.size ≤ t.mask) (un : (L.map (·.2)).Nodup) (el : ∀ p ∈ L, At P w s.heap p.2 p.1)
    (ld : w.params.followText "set-order" = true ∨ t.led = true) (few : L.length < 64) {wanted M : Nat} (hw : SetTable.sizeAbove wanted - 1 = M) (hM : MaskOk M) (hw2 : SetTable.sizeAbove wanted ≤ 128) (hn : L.length * 5 < M * 3) {Q : Unit → Shared → Prop}
    (q : ∀ h' L' es' ep' t', Heap.SameBut a s.heap h' → SetK P w h' a L' es' ep' t' → L'.Perm L → Q () { s with heap := h' }) : wpAny (model P w) A (setRelay a wanted) Q E s := by
  have sz : es.size = L.length := by rw [← Array.length_toList, R, rws_len]
  have fits : t.fits es.size = true := by
    unfold SetTable.fits SetTable.fill
    rw [hdm, Bool.and_eq_true, beq_iff_eq, decide_eq_true_eq]
    exact ⟨psz, by show t.place.size + 0 ≤ t.mask; omega⟩
  obtain ⟨t', order, e, pm, T, em, el', _, _⟩ := relaid_ok t (hs := es.map (·.1)) (wanted := wanted) hw hM (by rw [Array.size_map, sz]; omega)
  rw [Array.size_map, sz] at pm
  obtain ⟨L', r1, r2, r3⟩ := reorder R order pm
  rw [← r3] at T
  have sz' : (order.filterMap (es[·]?)).size = es.size := by rw [← Array.length_toList, r1, rws_len, r2.length_eq, sz]
  rw [setRelay_eq]
  refine wpAny_bind (wpAny_setState_of ho hd fits ?_)
  dsimp only
  refine wp_if_neg (by rw [sizeLine_eq]; omega) ?_
  try refine wpAny_bind (wpAny_pure ?_)
  rw [e]
  dsimp only
  refine wpAny_bind ?_
  refine wp_if_neg (by rw [sz']; simp) ?_
  try refine wpAny_bind (wpAny_pure ?_)
  refine wpAny_pure ?_
  dsimp only
  have sb : Heap.SameBut a s.heap (s.heap.update a (Obj.putSet (order.filterMap (es[·]?)) t')) := Heap.SameBut.update ..
  refine wpAny_storeSet_of ho hd (q _ L' _ (ep + 1) t' sb ⟨⟨_, store_at ho hd, ⟨hex.1, hex.2.1, hex.2.2⟩, rfl⟩, r1, T, (r2.map (·.2)).nodup_iff.mpr un, fun p m => ?_, by rw [el']; exact ld, by rw [r2.length_eq, em]; exact hn, by rw [r2.length_eq]; exact few⟩ r2) (by rw [sz', sz, sizeLine_eq]; omega)
  have x := el p (r2.mem_iff.mp m)
  exact x.on fun o' e' => (sb.2 _ (x.noset ho hd)).trans e'
theorem tab_plain {t1 : SetTable} {hs : List Int} (T : TabOk t1 hs) (c : Bool) : TabOk (if c = true then t1 else { t1 with plain := false }) hs := by
  cases c with
  | true => exact T
  | false => exact ⟨T.ris, T.dm, T.sz, T.mok, T.bd, T.reach⟩
/-- a tuple is added -/
theorem put (R : SetK P w s.heap a L es ep t) {b : Addr} {k : List Key} (x : At P w s.heap k b) (hu : A.units < cLine) (few : L.length + 1 < 64) {Q : Bool → Shared → Prop}
    (q : ∀ c h' L' es' ep' t', Heap.SameBut a s.heap h' → SetK P w h' a L' es' ep' t' → (k ∈ L.map (·.2) → L' = L) → (k ∉ L.map (·.2) → L'.Perm ((b, k) :: L)) → Q c { s with heap := h' }) : wpAny (model P w) A (setAddHashed a (.ref b) (hk P w k)) Q E s := by
  obtain ⟨o, ho, hex, hd⟩ := R.obj
  have sz := R.size
  have room := R.room
  unfold setAddHashed
  refine wpAny_holding ?_
  rw [show (100000 : Nat) = 99999 + 1 from rfl, setAddHashedIn_succ]
  refine wpAny_bind (wpAny_setState_of ho hd R.fits ?_)
  dsimp only
  refine wp_if_neg (by simp [byScan, Value.scannable]) ?_
  try refine wpAny_bind (wpAny_pure ?_)
  refine wpAny_bind (seek0 R x hu (fun m => ?_) fun K nm hK hb => ?_)
  · exact wpAny_pure (q false s.heap L es ep t (Heap.SameBut.refl a s.heap) R (fun _ => rfl) fun z => absurd m z)
  dsimp only
  refine wpAny_bind (wpAny_setState_of ho hd R.fits ?_)
  dsimp only
  obtain ⟨q1, q2, q3, q4, q5, _, _, _, q9⟩ := R.tab.put hK hb
  generalize t.put (way t.mask (hk P w k) K) = pt at q1 q3 q4 q5 q9 ⊢
  obtain ⟨t1, n⟩ := pt
  dsimp only at q1 q3 q4 q5 q9 ⊢
  subst q1
  generalize hn : SetTable.below t.place (way t.mask (hk P w k) K) = n at q2 q3
  have rows : (SetTable.insertAt es n (hk P w k, Value.ref b)).toList = rws P w (L.take n ++ (b, k) :: L.drop n) := by
    rw [SetTable.toList_insertAt, R.rw]
    unfold rws
    rw [List.map_append, List.map_cons, List.map_take, List.map_drop]
  have pm := put_perm L n (b, k)
  have hashes : (L.take n ++ (b, k) :: L.drop n).map (fun p => hk P w p.2) = (L.map fun p => hk P w p.2).take n ++ hk P w k :: (L.map fun p => hk P w p.2).drop n := by
    rw [List.map_append, List.map_cons, List.map_take, List.map_drop]
  rw [← hashes] at q3
  have un1 : ((L.take n ++ (b, k) :: L.drop n).map (·.2)).Nodup := (pm.map (·.2)).nodup_iff.mpr (by rw [List.map_cons]; exact List.nodup_cons.mpr ⟨nm, R.un⟩)
  have len1 := pm.length_eq
  rw [List.length_cons] at len1
  have sz1 : (SetTable.insertAt es n (hk P w k, Value.ref b)).size = L.length + 1 := by rw [← Array.length_toList, rows, rws_len, len1]
  generalize SetTable.insertAt es n (hk P w k, Value.ref b) = es1 at rows sz1 ⊢
  generalize L.take n ++ (b, k) :: L.drop n = L1 at pm q3 un1 len1 rows
  have psz1 : t1.place.size = es1.size := by rw [q3.sz, List.length_map, len1, sz1]
  have fill1 : t1.fill = L.length + 1 := by rw [q9, List.length_map]
  have go : ∀ c : Bool, wpAny (model P w) A (do
      storeSet a es1 (if c = true then t1 else { t1 with plain := false })
      if (!false && (if c = true then t1 else { t1 with plain := false }).tooFull) = true then setRelay a (SetTable.grown (es.size + 1))
      pure true) Q E s := fun c => by
    have T := tab_plain q3 c
    have m2 : (if c = true then t1 else { t1 with plain := false }).mask = t.mask := by cases c <;> exact q4
    have l2 : (if c = true then t1 else { t1 with plain := false }).led = t.led := by cases c <;> exact q5
    have p2 : (if c = true then t1 else { t1 with plain := false }).place.size = es1.size := by cases c <;> exact psz1
    have f2 : (if c = true then t1 else { t1 with plain := false }).fill = L.length + 1 := by cases c <;> exact fill1
    generalize (if c = true then t1 else { t1 with plain := false }) = t2 at T m2 l2 p2 f2 ⊢
    have sb : Heap.SameBut a s.heap (s.heap.update a (Obj.putSet es1 t2)) := Heap.SameBut.update ..
    refine wpAny_bind (wpAny_storeSet_of ho hd ?_ (by rw [sz1, sizeLine_eq]; omega))
    have ho1 := store_at (es' := es1) (t' := t2) ho hd
    generalize s.heap.update a (Obj.putSet es1 t2) = h1 at sb ho1 ⊢
    have el1 : ∀ p ∈ L1, At P w h1 p.2 p.1 := fun p m => by
      have : At P w s.heap p.2 p.1 := by
        rcases List.mem_cons.mp (pm.mem_iff.mp m) with e | m
        · rw [e]; exact x
        · exact R.el p m
      exact this.on fun o' e' => (sb.2 _ (this.noset ho hd)).trans e'
    have ld1 : w.params.followText "set-order" = true ∨ t2.led = true := by rw [l2]; exact R.led
    by_cases hf : t2.tooFull = true
    · have full : (L.length + 1) * 5 ≥ t2.mask * 3 := by
        have h := hf
        unfold SetTable.tooFull at h
        rw [decide_eq_true_eq, f2] at h
        exact h
      have two : (t.mask = 7 ∧ L.length = 4) ∨ (t.mask = 31 ∧ L.length = 18) := by
        rcases R.tab.mok with e | e | e
        · exact .inl ⟨e, by rw [m2, e] at full; rw [e] at room; omega⟩
        · exact .inr ⟨e, by rw [m2, e] at full; rw [e] at room; omega⟩
        · rw [m2, e] at full; omega
      have fin : ∀ M, SetTable.sizeAbove (SetTable.grown (L.length + 1)) - 1 = M → MaskOk M → SetTable.sizeAbove (SetTable.grown (L.length + 1)) ≤ 128 → (L.length + 1) * 5 < M * 3 → wpAny (model P w) A (setRelay a (SetTable.grown (L.length + 1))) (fun _ s' => wpAny (model P w) A (pure true) Q E s') E { s with heap := h1 } := fun M g1 g2 g3 g4 =>
        relay (s := { s with heap := h1 }) ho1 ⟨hex.1, hex.2.1, hex.2.2⟩ rfl rows p2 T.dm (by rw [sz1, m2]; rcases two with ⟨e, e2⟩ | ⟨e, e2⟩ <;> omega) un1 el1 ld1 (by rw [len1]; exact few) g1 g2 g3 (by rw [len1]; exact g4)
          fun h2 L2 es2 ep2 t2' sb2 R2 pm2 => wpAny_pure (q true h2 L2 es2 ep2 t2' (sb.trans sb2) R2 (fun z => absurd z nm) fun _ => pm2.trans pm)
      rw [sz]
      have goal : wpAny (model P w) A (setRelay a (SetTable.grown (L.length + 1))) (fun _ s' => wpAny (model P w) A (pure true) Q E s') E { s with heap := h1 } := by
        rcases two with ⟨_, e2⟩ | ⟨_, e2⟩
        · exact fin 31 (by rw [e2, size_20]) (.inr (.inl rfl)) (by rw [e2, size_20]; decide) (by omega)
        · exact fin 127 (by rw [e2, size_76]) (.inr (.inr rfl)) (by rw [e2, size_76]; decide) (by omega)
      first
        | exact wpAny_bind (wp_if_pos (by simp [hf]) goal)
        | exact wp_if_pos (by simp [hf]) (wpAny_bind goal)
    · have nf : (L.length + 1) * 5 < t2.mask * 3 := by
        have h := hf
        unfold SetTable.tooFull at h
        rw [decide_eq_true_eq, f2] at h
        omega
      have R2 : SetK P w h1 a L1 es1 (ep + 1) t2 := ⟨⟨_, ho1, ⟨hex.1, hex.2.1, hex.2.2⟩, rfl⟩, rows, T, un1, el1, ld1, by rw [len1]; exact nf, by rw [len1]; exact few⟩
      have goal : wpAny (model P w) A (pure true) Q E { s with heap := h1 } := wpAny_pure (q true h1 L1 es1 (ep + 1) t2 sb R2 (fun z => absurd z nm) fun _ => pm)
      first
        | exact wp_if_neg (by simp [hf]) goal
        | exact wpAny_bind (wp_if_neg (by simp [hf]) (wpAny_pure goal))
  by_cases pl : t1.plain = true
  · first
      | exact wp_if_pos pl (wpAny_bind (hash_at x go))
      | exact wpAny_bind (wp_if_pos pl (hash_at x go))
  · first
      | exact wp_if_neg pl (wpAny_bind (wpAny_pure (go true)))
      | exact wpAny_bind (wp_if_neg pl (wpAny_pure (go true)))
      | exact wp_if_neg pl (go true)
/-- the set at a holds just these keys -/
def Has (P : Program) (w : World) (h : Heap) (a : Addr) (m : List (List Key)) : Prop := ∃ L es ep t, SetK P w h a L es ep t ∧ L.map (·.2) = m
theorem SetK.on {h h' : Heap} {a : Addr} {L : List (Addr × List Key)} {es : Array (Int × Value)} {ep : Nat} {t : SetTable} (R : SetK P w h a L es ep t) (q : ∀ b o, h.get? b = some o → (b = a ∨ ∃ p ∈ L, b = p.1) → h'.get? b = some o) : SetK P w h' a L es ep t := by
  obtain ⟨o, ho, r⟩ := R.obj
  exact ⟨⟨o, q a o ho (.inl rfl), r⟩, R.rw, R.tab, R.un, fun p m => (R.el p m).on fun o e => q _ o e (.inr ⟨p, m, rfl⟩), R.led, R.room, R.few⟩
theorem fresh {h : Heap} {a : Addr} (ho : h.get? a = some (S0 w)) : SetK P w h a [] #[] 0 (.fresh 0 0 (!w.params.followText "set-order")) where
  obj := ⟨_, ho, ⟨rfl, rfl, rfl⟩, rfl⟩
  rw := rfl
  tab := ⟨List.Pairwise.nil, rfl, rfl, .inl rfl, fun x hx => (nomatch hx), fun i h j hi => by simp at hi⟩
  un := List.nodup_nil
  el := fun p hp => nomatch hp
  led := by
    show _ ∨ (!w.params.followText "set-order") = true
    cases w.params.followText "set-order" <;> simp
  room := show 0 * 5 < 7 * 3 from by decide
  few := show 0 < 64 from by decide
/-- S.update(it), tuples of keys -/
theorem upd {I : Addr} {fp wr : List Addr} {G : Array GenState → Array GenState → Prop} {n : Nat} {Pv : Nat → Value → Prop} {St : Nat → Shared → Prop} {R : Result → Shared → Prop} (W : WalksS P w A.in1 I fp wr G n Pv St) {S : Addr} (hS : S ∉ fp)
    {ks : List (Addr × List Key)} (hn : n = ks.length) (few : ks.length < 64) (hv : ∀ i v, Pv i v → ∃ p, ks[i]? = some p ∧ v = .ref p.1) {h0 : Heap} (h0S : h0.get? S = none) (h0w : ∀ b ∈ wr, h0.get? b = none) (hks : ∀ p ∈ ks, At P w h0 p.2 p.1) (hu : A.in1.units < cLine) :
    ∀ (k i : Nat) (s : Shared) (L : List (Addr × List Key)), n - i = k → i ≤ n → St i s → (∀ b o, h0.get? b = some o → s.heap.get? b = some o) → (∃ es ep t, SetK P w s.heap S L es ep t) → L.length ≤ i → (∀ p ∈ L, p ∈ ks) → (∀ x, x ∈ L.map (·.2) ↔ x ∈ (ks.take i).map (·.2)) →
      (∀ s' M, Moved (S :: wr) G s s' → (∃ es ep t, SetK P w s'.heap S M es ep t) → (∀ x, x ∈ M.map (·.2) ↔ x ∈ ks.map (·.2)) → R (.ok (.ret .none)) s') →
      codeAny (model P w) A (.builtin "set.update.loop" ⟨[.ref S, .ref I], []⟩) R s := by
  have sw : S ∉ wr := fun z => hS (W.sub S z)
  have wide : ∀ {s s' : Shared}, Moved wr G s s' → Moved (S :: wr) G s s' := fun m => m.mono fun b z => List.mem_cons_of_mem S z
  have old : ∀ {s s' : Shared}, Moved wr G s s' → (∀ b o, h0.get? b = some o → s.heap.get? b = some o) → ∀ b o, h0.get? b = some o → s'.heap.get? b = some o := fun mv k b o e => mv.heap b o (fun z => by rw [h0w b z] at e; cases e) (k b o e)
  have stay : ∀ {s s' : Shared} {L : List (Addr × List Key)} {es : Array (Int × Value)} {ep : Nat} {t : SetTable}, Moved wr G s s' → (∀ b o, h0.get? b = some o → s.heap.get? b = some o) → (∀ p ∈ L, p ∈ ks) → SetK P w s.heap S L es ep t → SetK P w s'.heap S L es ep t := fun mv k sub R => R.on fun b o e c => by
    rcases c with rfl | ⟨p, m, rfl⟩
    · exact mv.heap _ o sw e
    · obtain ⟨o', its, n', e', r⟩ := hks p (sub p m)
      have := k _ _ e'
      rw [e] at this
      cases this
      exact old mv k _ _ e'
  intro k
  induction k with
  | zero =>
    intro i s L e1 e2 st hk ⟨es, ep, t, hT⟩ hl sub hm q
    obtain rfl : i = n := by omega
    refine codeAny_builtin F.entry_set_update_loop ?_
    rw [Around.under_plainId F.plain_set_update_loop _]
    refine wpAny_bind (m := pyNext (.ref I)) (W.done s _ _ st fun s' mv => wpAny_pure (q s' L (wide mv) ⟨es, ep, t, stay mv hk sub hT⟩ fun x => ?_))
    rw [hm x, List.take_of_length_le (by omega)]
  | succ k ih =>
    intro i s L e1 e2 st hk ⟨es, ep, t, hT⟩ hl sub hm q
    have hi : i < n := by omega
    refine codeAny_builtin F.entry_set_update_loop ?_
    rw [Around.under_plainId F.plain_set_update_loop _]
    refine wpAny_bind (m := pyNext (.ref I)) (W.item i s _ _ hi st fun v s1 pv st1 mv => ?_)
    obtain ⟨p, ep', rfl⟩ := hv i v pv
    have pm := List.mem_of_getElem? ep'
    have hk1 := old mv hk
    have x1 : At P w s1.heap p.2 p.1 := (hks p pm).on fun o e => hk1 _ o e
    have hT1 := stay mv hk sub hT
    refine wpAny_bind (m := holding [Value.ref p.1] (setAdd S (.ref p.1))) (wpAny_holding ?_)
    unfold setAdd
    refine wpAny_holding (wpAny_bind (wpAny_pyHash_tuple hu x1 ?_))
    refine put (s := { s1 with toks := s1.toks + (p.2.length + 1) }) hT1 x1 hu (by omega) fun c h' L' es' ep'' t' sb hT' c1 c2 => ?_
    have back : ∀ b o, b ≠ S → s1.heap.get? b = some o → h'.get? b = some o := fun b o ne e => (sb.2 b ne).trans e
    have nS : ∀ b o, h0.get? b = some o → b ≠ S := fun b o e z => by rw [z, h0S] at e; cases e
    have tk : ∀ y, y ∈ (ks.take (i + 1)).map (·.2) ↔ y ∈ (ks.take i).map (·.2) ∨ y = p.2 := fun y => by
      rw [List.take_add_one, ep', List.map_append, List.mem_append]
      show _ ∨ y ∈ [p.2] ↔ _
      rw [List.mem_singleton]
    have got : L'.length ≤ i + 1 ∧ (∀ p ∈ L', p ∈ ks) ∧ ∀ x, x ∈ L'.map (·.2) ↔ x ∈ (ks.take (i + 1)).map (·.2) := by
      by_cases c : p.2 ∈ L.map (·.2)
      · rw [c1 c]
        refine ⟨by omega, sub, fun y => ?_⟩
        rw [tk y, hm y]
        exact ⟨.inl, fun z => z.elim id fun z => z ▸ (hm _).mp c⟩
      · have pm2 := c2 c
        have l2 := pm2.length_eq
        rw [List.length_cons] at l2
        refine ⟨by omega, fun y m => ?_, fun y => ?_⟩
        · rcases List.mem_cons.mp (pm2.mem_iff.mp m) with e | m
          · rw [e]; exact pm
          · exact sub y m
        · rw [(pm2.map (·.2)).mem_iff, List.map_cons, List.mem_cons, tk y, hm y]
          exact Or.comm
    refine wpAny_pure ⟨plainId_quiet F.plain_set_update_loop _, ih (i + 1) _ L' (by omega) hi (W.frame _ s1 _ _ st1 (Nat.le_add_right _ _) fun b z o e => back b o (fun y => hS (y ▸ z)) e) (fun b o e => back b o (nS b o e) (hk1 b o e)) ⟨es', ep'', t', hT'⟩ got.1 got.2.1 got.2.2 fun s2 M mv2 hT2 hm2 => ?_⟩
    exact q s2 M (Moved.trans W.gtrans ((wide mv).then_heap (Nat.le_add_right _ _) fun b o z e => back b o (fun y => z (y ▸ List.mem_cons_self)) e) mv2) hT2 hm2
set_option maxHeartbeats 8000000 in
/-- set(x), x a list or a tuple at l: its loop told by `loop` -/
theorem set_callU {l : Addr} {T : String} {ol itO : Obj} {Res : Heap → Prop} {Q : Value → Shared → Prop} (hh : A.handled = none) (hol : s.heap.get? l = some ol) (hcl : ol.cls = .type T)
    (n1 : isSubtype (.type T) (.type "set") = pure false) (n2 : isSubtype (.type T) (.type "frozenset") = pure false) (n3 : (Value.type T == Value.type "dict") = false)
    (itr : ∀ {A : Around} {E : Value → Shared → Prop} {s1 : Shared} {Q : Value → Shared → Prop}, s1.heap.get? l = some ol → Q (.ref s1.heap.objs.size) { s1 with heap := s1.heap.push itO } → wpAny (model P w) A (pyIter (.ref l)) Q E s1)
    (loop : ∀ (A' : Around) (R : Result → Shared → Prop) (tk : Tok), A'.handled = none → A'.in1.units ≤ A.units + 3 →
      (∀ h' tk', Res h' → (∀ b o, s.heap.get? b = some o → h'.get? b = some o) → R (.ok (.ret .none)) { s with heap := h', toks := tk' }) →
      codeAny (model P w) A' (.builtin "set.update.loop" ⟨[.ref s.heap.objs.size, .ref (s.heap.push (S0 w)).objs.size], []⟩) R { s with heap := (s.heap.push (S0 w)).push itO, toks := tk })
    (q : ∀ h' tk, Res h' → (∀ b o, s.heap.get? b = some o → h'.get? b = some o) → Q (.ref s.heap.objs.size) { s with heap := h', toks := tk }) :
    wpAny (model P w) A (call (.type "set") [.ref l]) Q E s := by
  obtain ⟨_, _, mro⟩ := F.called_set.mro; have made := F.called_set.made; have sub := F.called_set.sub; have k1 := F.called_set.notType; have k2 := F.called_set.canCreate; have ct := F.typeCall_set_1 (.ref l)
  refine wpAny_call (codeAny_of_tree ?_); show wpAny _ _ (callAny (.type "set") _) _ _ _
  refine wpAny_pure ⟨Code.quiet_builtin _ (by decide +kernel), codeAny_builtin F.entry_type_call ?_⟩; rw [Around.under_plain (weight_type_call_type "set" [.ref l] []) rfl]
  repeat any_goals first | assumption | wp_step
  refine codeAny_mono (code_set_led1 (.ref l) (E := E) (Q₁ := fun o s1 => o = .ref s.heap.objs.size ∧ s1 = { s with heap := s.heap.push (S0 w) }) ⟨rfl, rfl⟩) fun r s1 hr => ?_
  rcases r with e | (_ | _ | _ | o)
  · exact hr
  · exact hr.elim
  · exact hr.elim
  · exact hr.elim
  · obtain ⟨rfl, rfl⟩ := hr
    have hS : (s.heap.push (S0 w)).get? s.heap.objs.size = some (S0 w) := Heap.get?_push_size _ rfl
    have hT : Shared.TypeIs { s with heap := s.heap.push (S0 w) } (.ref s.heap.objs.size) "set" := ⟨_, hS, rfl⟩
    have il := F.called_set.init.lookup; have ib := F.called_set.init.bind (.ref s.heap.objs.size)
    repeat any_goals first | assumption | wp_step
    refine codeAny_mono (codeAny_call_builtin (R := wants (fun r s2 => r = .none ∧ ∃ h' tk, s2 = { s with heap := h', toks := tk } ∧ Res h' ∧ (∀ b o, s.heap.get? b = some o → h'.get? b = some o)) E) F.called_set.init.plain F.entry_set_init (check_set_init_1 hT ?_)) fun r2 s2 h2 => ?_
    · have e1 : (s.heap.push (S0 w)).get? l = some ol := Heap.get?_push_of_some _ hol
      have hTl : Shared.TypeIs { s with heap := s.heap.push (S0 w) } (.ref l) T := ⟨ol, e1, hcl⟩
      unfold Builtin.«set.__init__» noKeywords Builtin.Frozenset.updateFrom
      generalize hI : pyIter = PI
      obtain ⟨c, d, da, sl⟩ := ol
      dsimp only at hcl
      subst hcl
      wp_walk
      subst hI
      refine itr e1 (wpAny_bind (wpAny_runValue (loop _ _ _ (by simp [hh]) (Nat.le_refl _) fun h' tk r k => ?_)))
      exact wpAny_pure (wpAny_pure ⟨rfl, h', tk, rfl, r, k⟩)
    · rcases r2 with e | (_ | _ | _ | o)
      · exact h2
      · exact h2.elim
      · exact h2.elim
      · exact h2.elim
      · obtain ⟨rfl, h', tk, rfl, r, k⟩ := h2
        repeat any_goals first | assumption | wp_step
        exact q _ _ r k
/-- set(x) -/
theorem set_keys {l : Addr} {its : Array Value} {ks : List (Addr × List Key)} {Q : Value → Shared → Prop} (hh : A.handled = none) (hl : s.heap.IsList l its ∨ s.heap.IsTuple l its) (hx : its.toList = ks.map fun p => Value.ref p.1) (hks : ∀ p ∈ ks, At P w s.heap p.2 p.1) (few : ks.length < 64) (hu : A.units + 3 < cLine)
    (q : ∀ h' tk, (∃ M es ep t, SetK P w h' s.heap.objs.size M es ep t ∧ ∀ x, x ∈ M.map (·.2) ↔ x ∈ ks.map (·.2)) → (∀ b o, s.heap.get? b = some o → h'.get? b = some o) → Q (.ref s.heap.objs.size) { s with heap := h', toks := tk }) :
    wpAny (model P w) A (call (.type "set") [.ref l]) Q E s := by
  have len : its.size = ks.length := by rw [← Array.length_toList, hx, List.length_map]
  have val : ∀ i v, its[i]? = some v → ∃ p : Addr × List Key, ks[i]? = some p ∧ v = Value.ref p.1 := fun i v e => by
    rw [← Array.getElem?_toList, hx, List.getElem?_map] at e
    cases c : ks[i]? with
    | none => rw [c] at e; cases e
    | some p => rw [c] at e; exact ⟨p, c, (Option.some.inj e).symm⟩
  have none0 : ∀ b, s.heap.objs.size ≤ b → s.heap.get? b = none := fun b hb => by
    cases e : s.heap.get? b with
    | none => rfl
    | some o => exact absurd (Heap.lt_size e) (Nat.not_lt_of_le hb)
  rcases hl with ⟨ol, e, c, n, d⟩ | ⟨ol, e, c, n, d⟩
  · refine set_callU (Res := fun h' => ∃ M es ep t, SetK P w h' s.heap.objs.size M es ep t ∧ ∀ x, x ∈ M.map (·.2) ↔ x ∈ ks.map (·.2)) hh e c F.sub_list_set F.sub_list_frozenset (by decide) (fun {_ _ s1 _} e1 h => wpAny_pyIter_list (s := s1) ⟨ol, e1, c, n, d⟩ h) (fun A' R tk ha hA hR => ?_) fun h' tk r k => q h' tk r k
    have lt := Heap.lt_size e
    obtain ⟨ne, nin, up⟩ := places (w := w) lt
    refine upd (s := { s with heap := (s.heap.push (S0 w)).push _, toks := tk }) ((Walks.list (A := A'.in1) (by simpa using ha) _ l ne its).toS) (S := s.heap.objs.size) nin len few val (none0 _ (Nat.le_refl _)) (fun b hb => none0 b (by rw [List.mem_singleton.mp hb]; exact up)) hks (by omega) (its.size - 0) 0 [] (by omega) (Nat.zero_le _)
      ⟨⟨_, Heap.get?_push_size _ rfl, rfl, rfl⟩, ⟨ol, lkp e, c, n, d⟩⟩ (fun b o z => lkp z) ⟨_, _, _, fresh (Heap.get?_push_of_some _ (Heap.get?_push_size _ rfl))⟩ (Nat.zero_le _) (fun p hp => (nomatch hp)) (fun x => by simp) fun s' M mv ⟨es, ep, t, r1⟩ r3 => ?_
    obtain ⟨es', k⟩ := moved_end rfl up (fun b o z => lkp z) mv
    rw [es']
    exact hR _ _ ⟨M, es, ep, t, r1, r3⟩ k
  · refine set_callU (Res := fun h' => ∃ M es ep t, SetK P w h' s.heap.objs.size M es ep t ∧ ∀ x, x ∈ M.map (·.2) ↔ x ∈ ks.map (·.2)) hh e c F.sub_tuple_set F.sub_tuple_frozenset (by decide) (fun {_ _ s1 _} e1 h => wpAny_pyIter_tuple (s := s1) ⟨ol, e1, c, n, d⟩ h) (fun A' R tk ha hA hR => ?_) fun h' tk r k => q h' tk r k
    have lt := Heap.lt_size e
    obtain ⟨ne, nin, up⟩ := places (w := w) lt
    refine upd (s := { s with heap := (s.heap.push (S0 w)).push _, toks := tk }) ((Walks.tuple (A := A'.in1) (by simpa using ha) _ l ne its).toS) (S := s.heap.objs.size) nin len few val (none0 _ (Nat.le_refl _)) (fun b hb => none0 b (by rw [List.mem_singleton.mp hb]; exact up)) hks (by omega) (its.size - 0) 0 [] (by omega) (Nat.zero_le _)
      ⟨⟨_, Heap.get?_push_size _ rfl, rfl, rfl⟩, ⟨ol, lkp e, c, n, d⟩⟩ (fun b o z => lkp z) ⟨_, _, _, fresh (Heap.get?_push_of_some _ (Heap.get?_push_size _ rfl))⟩ (Nat.zero_le _) (fun p hp => (nomatch hp)) (fun x => by simp) fun s' M mv ⟨es, ep, t, r1⟩ r3 => ?_
    obtain ⟨es', k⟩ := moved_end rfl up (fun b o z => lkp z) mv
    rw [es']
    exact hR _ _ ⟨M, es, ep, t, r1, r3⟩ k
end
/-! ### the rule -/
theorem keys_of_vals {P : Program} {w : World} : ∀ {k : List Key} {us : List Value}, Vals (k.map kV) us → ItemsAre (mixKind P w) k us
  | [], _, .nil => .nil
  | _ :: _, _, .cons r t => .cons (kV_is r) (keys_of_vals t)
theorem refs_vals : ∀ {ks : List (Addr × List Key)} {us : List Value}, Vals (ks.map fun p => V.ref p.1) us → us = ks.map fun p => Value.ref p.1
  | [], _, .nil => rfl
  | p :: ks, _, .cons r t => by
    cases r
    rw [refs_vals t] <;> rfl
theorem nodup_len {α : Type} [DecidableEq α] : ∀ (l m : List α), m.Nodup → (∀ x, x ∈ m ↔ x ∈ l) → m.length ≤ l.length ∧ (m.length = l.length ↔ l.Nodup)
  | [], m, _, h => by
    have : m = [] := List.eq_nil_iff_forall_not_mem.mpr fun x hx => nomatch (h x).mp hx
    subst this
    exact ⟨Nat.le_refl _, fun _ => List.nodup_nil, fun _ => rfl⟩
  | x :: l, m, nd, h => by
    by_cases c : x ∈ l
    · have ih := nodup_len l m nd fun y => (h y).trans ⟨fun z => (List.mem_cons.mp z).elim (fun e => e ▸ c) id, List.mem_cons_of_mem _⟩
      rw [List.length_cons]
      refine ⟨by omega, fun e => by omega, fun z => ((List.nodup_cons.mp z).1 c).elim⟩
    · have hx := (h x).mpr List.mem_cons_self
      have l1 := List.length_erase_of_mem hx
      have l2 := List.length_pos_of_mem hx
      have ih := nodup_len l (m.erase x) (nd.erase x) fun y => by
        rw [nd.mem_erase_iff, h y, List.mem_cons]
        constructor
        · rintro ⟨n, e | m⟩
          · exact (n e).elim
          · exact m
        · intro m
          exact ⟨fun e => c (e ▸ m), .inr m⟩
      rw [List.length_cons, List.nodup_cons]
      refine ⟨by omega, fun e => ⟨c, ih.2.mp (by omega)⟩, fun e => by have := ih.2.mpr e.2; omega⟩
section
variable {X : Cx}
theorem inv_at {pins : List (Addr × Obj)} {σ : L2.St} {H : Hp} {s : Shared} {b : Addr} {k : List Key} (I : Inv X pins σ H s) (h : SqT X.K H b (k.map kV)) : At X.prog X.w s.heap k b := by
  obtain ⟨its, r, ⟨o, ho, hc, n, hd⟩, _⟩ := I.tuple h
  exact ⟨o, its.toArray, n, ho, hc, hd, by simpa using keys_of_vals r⟩
/-- len(set(x)) -/
def tLenSetK (K : PySem.W.Frag) (ta : TE) : TE := fun σ H Q => ta σ H fun x H1 => ∃ (l : Addr) (ks : List (Addr × List Key)), x = V.ref l ∧ SqX K H1 l (ks.map fun p => V.ref p.1) ∧ (∀ p ∈ ks, SqT K H1 p.1 (p.2.map kV)) ∧ ks.length < 64 ∧
  ∀ c : Nat, c ≤ ks.length → (c = ks.length ↔ (ks.map (·.2)).Nodup) → Q (.int c) H1
theorem pe_lenSetK {a : Expr} {ta : TE} {p p2 q pos : Pos} (hu : X.A.units + 9 < cLine) (hc : X.calm = true) (hg : Gl X "len") (hm : X.mg "len" = none) (hg2 : Gl X "set") (hm2 : X.mg "set" = none) (ha : PE X a ta)
    (na : starEach [a] X.env = (false, eval a X.env) :: starEach [] X.env := by rfl) : PE X (.Call (.Name "len" p) [.Call (.Name "set" p2) [a] [] q] [] pos) (tLenSetK X.K ta) := by
  refine ⟨fun pins s σ H Q I h => ?_⟩
  refine Call_ (ld_blt I hg hm PySem.boot_len ?_)
  refine PyProof.Rows.callWith_builtin1 (PyProof.Rows.args_cons ?_ rfl) rfl rfl
  refine Call_ (ld_blt I hg2 hm2 PyProof.Rows.boot_set ?_)
  refine PyProof.Rows.callWith_type1 (PyProof.Rows.args_cons (thn (ha.run pins s σ H _ I h) fun v s1 ⟨x, H1, I1, r1, q1⟩ => PyProof.Rows.args_nil ?_) na) na rfl
  obtain ⟨l, ks, rfl, hl, hks, few, q1⟩ := q1
  cases r1
  obtain ⟨its, rv, hi⟩ := inv_any I1 hl
  refine set_keys (I1.ok.hd hc) hi (by simpa using refs_vals rv) (fun p m => inv_at I1 (hks p m)) few (by omega) fun h' tk ⟨M, es, ep, t, R, mem⟩ k => PyProof.Rows.args_nil ?_
  obtain ⟨o, ho, hex, hd⟩ := R.obj
  have sz : es.size = M.length := R.size (s := { s1 with heap := h' })
  have fits : t.fits es.size = true := R.fits (s := { s1 with heap := h' })
  have few2 := R.few
  obtain ⟨n1, n2⟩ := nodup_len (ks.map (·.2)) (M.map (·.2)) R.un mem
  rw [List.length_map, List.length_map] at n1 n2
  exact call_len_set ho hex hd fits (by rw [sz]; omega) ⟨.int (M.length : Nat), H1, (I1.kept (t' := tk) fun b o e => k b o e).tok _, ⟨_, by rw [sz]⟩, q1 M.length n1 n2⟩
end
end Su

/-! dict(zip(a, b)) of two tuples -/
namespace Dz
open PySem PySem.Spec PyProof.Rows L2 RZ
section
variable {prog : Program} {w : World} {A : Around} {E : Value → Shared → Prop} {s : Shared} {z TI TO T i1 i2 l1 l2 : Addr} {f : Bool} {oT : Obj} {n : Nat} {xs ys : Array Value}
/-- both walks at their turn n -/
structure At2 (h : Heap) (i1 i2 l1 l2 : Addr) (n : Nat) (xs ys : Array Value) : Prop where
  w1 : h.IsTupleIter i1 l1 n
  w2 : h.IsTupleIter i2 l2 n
  t1 : h.IsTuple l1 xs
  t2 : h.IsTuple l2 ys
theorem out_item {x y : Value} {Q : Option Value → Shared → Prop} (D : ZipApart z TI TO i1 i2 l1 l2) (zh : IsZipHeld s.heap z TI TO T f) (aT : s.heap.get? T = some oT) (ip : IsPair s.heap TI (.ref i1) (.ref i2)) (a2 : At2 s.heap i1 i2 l1 l2 n xs ys) (gx : xs[n]? = some x) (gy : ys[n]? = some y)
    (q : ∀ h', IsZipHeld h' z TI TO T true → h'.IsTupleIter i1 l1 (n + 1) → h'.IsTupleIter i2 l2 (n + 1) → IsPair h' s.heap.objs.size x y → (∀ c o, c ≠ z → c ≠ i1 → c ≠ i2 → s.heap.get? c = some o → h'.get? c = some o) → Q (some (.ref s.heap.objs.size)) { s with heap := h' }) :
    wpAny (model prog w) A (pyNext (.ref z)) Q E s := by
  have ty : s.TypeIs (.ref z) "zip" := ⟨_, zh, rfl⟩
  unfold pyNext
  refine wpAny_bind (wpAny_attempt (wpAny_callSpecial?_slot (name := Str.ofString "__next__") ty F.slot_zip_next (wpAny_call_entry F.slot_zip_next ty F.entry_zip_next ?_ (F.args_zip_next_1 _))))
  show wpAny _ _ (field (.ref z) 2 >>= _) _ _ _
  refine wpAny_bind (wpAny_field zh rfl (x := .bool false) rfl ?_)
  show wpAny _ _ (field (.ref z) 3 >>= _) _ _ _
  refine wpAny_bind (wpAny_field zh rfl (x := .ref TI) rfl (wpAny_bind (wpAny_seqItems ip rfl ?_)))
  show wpAny _ _ (Builtin.SmallTypes.ownedTupleIsFree (.ref z) >>= _) _ _ _
  refine wpAny_bind (wpAny_tupleHeld_zip zh aT fun g1 zg1 b1 => ?_)
  simp only [Bool.false_eq_true, if_false]
  refine wpAny_bind ?_
  rw [← Array.forIn_toList]
  simp only [List.forIn_cons, List.forIn_nil]
  refine wpAny_bind (wpAny_bind (wpAny_holding ?_))
  show wpAny _ _ (Builtin.SmallTypes.nextOf (.ref i1) >>= _) _ _ _
  refine wpAny_bind (nextOf_tuple_item (s := { s with heap := g1 }) (a2.w1.at fun o e => b1.extBut _ o D.i1z e) (a2.t1.at fun o e => b1.extBut _ o D.l1z e) gx fun g2 u1 b2 => wpAny_pure (wpAny_pure ?_))
  refine wpAny_bind (wpAny_bind (wpAny_holding ?_))
  show wpAny _ _ (Builtin.SmallTypes.nextOf (.ref i2) >>= _) _ _ _
  refine wpAny_bind (nextOf_tuple_item (s := { s with heap := g2 }) (a2.w2.at fun o e => b2.extBut _ o D.i12.symm (b1.extBut _ o D.i2z e)) (a2.t2.at fun o e => b2.extBut _ o D.l2i1 (b1.extBut _ o D.l2z e)) gy fun g3 u2 b3 => wpAny_pure (wpAny_pure (wpAny_pure ?_)))
  show wpAny _ _ (newTuple [x, y] >>= _) _ _ _
  refine wpAny_bind (wpAny_newTuple ?_)
  have ez : g3.objs.size = s.heap.objs.size := by rw [b3.1, b2.1, b1.1]
  have zg3 : IsZipHeld g3 z TI TO T true := b3.extBut _ _ D.i2z.symm (b2.extBut _ _ D.i1z.symm zg1)
  have kp : ∀ c o, c ≠ z → c ≠ i1 → c ≠ i2 → s.heap.get? c = some o → g3.get? c = some o := fun c o n1 n2 n3 e => b3.extBut _ _ n3 (b2.extBut _ _ n2 (b1.extBut _ _ n1 e))
  refine wpAny_pure ⟨_, rfl, wpAny_pure ?_⟩
  show Q (some (.ref g3.objs.size)) _
  have np : IsPair (g3.push { cls := .type "tuple", data := .seq #[x, y] }) g3.objs.size x y := Heap.get?_push_size _ rfl
  rw [ez] at np ⊢
  have pu : ∀ {c : Addr} {o : Obj}, g3.get? c = some o → (g3.push { cls := .type "tuple", data := .seq #[x, y] }).get? c = some o := fun e => Heap.get?_push_of_some _ e
  exact q _ (pu zg3) ((u1.at fun o e => b3.extBut _ o D.i12 e).at fun o e => pu e) (u2.at fun o e => pu e) np fun c o n1 n2 n3 e => pu (kp c o n1 n2 n3 e)
theorem out_end {Q : Option Value → Shared → Prop} (hh : A.handled = none) (D : ZipApart z TI TO i1 i2 l1 l2) (zh : IsZipHeld s.heap z TI TO T f) (aT : s.heap.get? T = some oT) (ip : IsPair s.heap TI (.ref i1) (.ref i2)) (a2 : At2 s.heap i1 i2 l1 l2 n xs ys) (ge : xs[n]? = none ∨ ys[n]? = none)
    (q : ∀ h', (∀ c o, c ≠ z → c ≠ i1 → c ≠ i2 → s.heap.get? c = some o → h'.get? c = some o) → Q none { s with heap := h' }) : wpAny (model prog w) A (pyNext (.ref z)) Q E s := by
  have ty : s.TypeIs (.ref z) "zip" := ⟨_, zh, rfl⟩
  have fin : ∀ (h' : Heap) (e : Addr), (∀ c o, c ≠ z → c ≠ i1 → c ≠ i2 → s.heap.get? c = some o → h'.get? c = some o) → (∃ o, h'.get? e = some o ∧ o.cls = .type "StopIteration") → wpAny (model prog w) A (do let b ← isInstance (.ref e) (.type "StopIteration"); if b then pure none else Sem.raise (.ref e)) Q E { s with heap := h' } := fun h' e k ⟨o, ho, hc⟩ => wpAny_bind (wpAny_isInstance (T := "StopIteration") (b := true) ⟨o, ho, hc⟩ isSubtype_stop (wpAny_pure (q h' k)))
  unfold pyNext
  refine wpAny_bind (wpAny_attempt (wpAny_callSpecial?_slot (name := Str.ofString "__next__") ty F.slot_zip_next (wpAny_call_entry F.slot_zip_next ty F.entry_zip_next ?_ (F.args_zip_next_1 _))))
  show wpAny _ _ (field (.ref z) 2 >>= _) _ _ _
  refine wpAny_bind (wpAny_field zh rfl (x := .bool false) rfl ?_)
  show wpAny _ _ (field (.ref z) 3 >>= _) _ _ _
  refine wpAny_bind (wpAny_field zh rfl (x := .ref TI) rfl (wpAny_bind (wpAny_seqItems ip rfl ?_)))
  show wpAny _ _ (Builtin.SmallTypes.ownedTupleIsFree (.ref z) >>= _) _ _ _
  refine wpAny_bind (wpAny_tupleHeld_zip zh aT fun g1 zg1 b1 => ?_)
  simp only [Bool.false_eq_true, if_false]
  refine wpAny_bind ?_
  rw [← Array.forIn_toList]
  simp only [List.forIn_cons, List.forIn_nil]
  refine wpAny_bind (wpAny_bind (wpAny_holding ?_))
  show wpAny _ _ (Builtin.SmallTypes.nextOf (.ref i1) >>= _) _ _ _
  cases gx : xs[n]? with
  | none => exact wpAny_bind (nextOf_tuple_end (s := { s with heap := g1 }) hh (a2.w1.at fun o e => b1.extBut _ o D.i1z e) (a2.t1.at fun o e => b1.extBut _ o D.l1z e) gx fun g2 e b2 he => fin g2 e (fun c o n1 n2 _ x => b2 _ _ n2 (b1.extBut _ _ n1 x)) he)
  | some x =>
    have gy : ys[n]? = none := ge.elim (fun h => by rw [gx] at h; cases h) id
    refine wpAny_bind (nextOf_tuple_item (s := { s with heap := g1 }) (a2.w1.at fun o e => b1.extBut _ o D.i1z e) (a2.t1.at fun o e => b1.extBut _ o D.l1z e) gx fun g2 u1 b2 => wpAny_pure (wpAny_pure ?_))
    refine wpAny_bind (wpAny_bind (wpAny_holding ?_))
    show wpAny _ _ (Builtin.SmallTypes.nextOf (.ref i2) >>= _) _ _ _
    exact wpAny_bind (nextOf_tuple_end (s := { s with heap := g2 }) hh (a2.w2.at fun o e => b2.extBut _ o D.i12.symm (b1.extBut _ o D.i2z e)) (a2.t2.at fun o e => b2.extBut _ o D.l2i1 (b1.extBut _ o D.l2z e)) gy fun g3 e b3 he => fin g3 e (fun c o n1 n2 n3 x => b3 _ _ n3 (b2.extBut _ _ n2 (b1.extBut _ _ n1 x))) he)
end
/-- a zip of two tuples as it is made -/
structure Fresh (h : Heap) (z TI TO i1 i2 l1 l2 : Addr) (xs ys : Array Value) : Prop where
  z0 : IsZip h z TI TO .none
  ip : IsPair h TI (.ref i1) (.ref i2)
  op : ∃ a b, IsPair h TO a b
  a2 : At2 h i1 i2 l1 l2 0 xs ys
theorem At2.up {h h' : Heap} {i1 i2 l1 l2 : Addr} {n : Nat} {xs ys : Array Value} (a : At2 h i1 i2 l1 l2 n xs ys) (k : ∀ c, c = i1 ∨ c = i2 ∨ c = l1 ∨ c = l2 → ∀ o, h.get? c = some o → h'.get? c = some o) : At2 h' i1 i2 l1 l2 n xs ys :=
  ⟨a.w1.at fun o => k i1 (.inl rfl) o, a.w2.at fun o => k i2 (.inr (.inl rfl)) o, a.t1.at fun o => k l1 (.inr (.inr (.inl rfl))) o, a.t2.at fun o => k l2 (.inr (.inr (.inr rfl))) o⟩
/-- the walk while the dict at d is filled: as made, or its last pair still out -/
def Mid (z TI TO i1 i2 l1 l2 d : Addr) (xs ys : Array Value) (n : Nat) (h : Heap) : Prop := IsPair h TI (.ref i1) (.ref i2) ∧ At2 h i1 i2 l1 l2 n xs ys ∧ ((IsZip h z TI TO .none ∧ ∃ a b, IsPair h TO a b) ∨ ∃ (T : Addr) (f : Bool) (oT : Obj), IsZipHeld h z TI TO T f ∧ h.get? T = some oT ∧ (T ≠ z ∧ T ≠ i1 ∧ T ≠ i2) ∧ T ≠ d)
section
variable {prog : Program} {w : World} {z TI TO i1 i2 l1 l2 d : Addr} {xs ys : Array Value}
theorem src {A : Around} (hh : A.handled = none) (D : ZipApart z TI TO i1 i2 l1 l2) (off : d ∉ [z, TI, TO, i1, i2, l1, l2]) (len : xs.size = ys.size) : PairSrc prog w A z d [z, TO, i1, i2] xs.size (fun i k v => xs[i]? = some k ∧ ys[i]? = some v) (Mid z TI TO i1 i2 l1 l2 d xs ys) := by
  simp only [List.mem_cons, List.not_mem_nil, or_false, not_or] at off
  obtain ⟨nz, nTI, nTO, n1, n2, m1, m2⟩ : d ≠ z ∧ d ≠ TI ∧ d ≠ TO ∧ d ≠ i1 ∧ d ≠ i2 ∧ d ≠ l1 ∧ d ≠ l2 := off
  refine ⟨by simp only [List.mem_cons, List.not_mem_nil, or_false, not_or]; exact ⟨nz, nTO, n1, n2⟩, ?_, ?_, ?_⟩
  · rintro i h h' ⟨ip, a2, st⟩ k
    refine ⟨k _ _ nTI.symm ip, a2.up ?_, st.imp (fun ⟨z0, a, b, op⟩ => ⟨k _ _ nz.symm z0, a, b, k _ _ nTO.symm op⟩) fun ⟨T, f, oT, zh, aT, r, rd⟩ => ⟨T, f, oT, k _ _ nz.symm zh, k _ _ rd aT, r, rd⟩⟩
    rintro c (rfl | rfl | rfl | rfl) o e
    · exact k _ _ n1.symm e
    · exact k _ _ n2.symm e
    · exact k _ _ m1.symm e
    · exact k _ _ m2.symm e
  · rintro i s Q E li ⟨ip, a2, st⟩ ld q
    have gx : xs[i]? = some xs[i] := Array.getElem?_eq_getElem li
    have gy : ys[i]? = some (ys[i]'(len ▸ li)) := Array.getElem?_eq_getElem (len ▸ li)
    have old : ∀ {c : Addr} {o : Obj}, s.heap.get? c = some o → s.heap.objs.size ≠ c := fun e => (Nat.ne_of_lt (Heap.lt_size e)).symm
    have o1 : s.heap.objs.size ≠ i1 := let ⟨_, e, _⟩ := a2.w1; old e
    have o2 : s.heap.objs.size ≠ i2 := let ⟨_, e, _⟩ := a2.w2; old e
    rcases st with ⟨z0, a, b, op⟩ | ⟨T, f, oT, zh, aT, r, rd⟩
    · refine pyNext_zipT_item D z0 ip op a2.w1 a2.w2 a2.t1 a2.t2 gx gy fun h' c1 c2 c3 c4 c5 _ k => ?_
      refine q s.heap.objs.size _ _ h' s.toks ⟨gx, gy⟩ (.inl ⟨_, c5, rfl, _, rfl⟩) ⟨k _ _ D.TIz D.TITO D.TIi1 D.TIi2 ip, ⟨c3, c4, a2.t1.at fun o e => k _ o D.l1z D.l1TO D.l1i1 D.l1i2 e, a2.t2.at fun o e => k _ o D.l2z D.l2TO D.l2i1 D.l2i2 e⟩, .inr ⟨s.heap.objs.size, false, _, c1, c5, ⟨old z0, o1, o2⟩, (Nat.ne_of_lt ld).symm⟩⟩ fun c o nc e => ?_
      simp only [List.mem_cons, List.not_mem_nil, or_false, not_or] at nc
      exact k c o nc.1 nc.2.1 nc.2.2.1 nc.2.2.2 e
    · refine out_item D zh aT ip a2 gx gy fun h' c1 c2 c3 c4 k => ?_
      refine q s.heap.objs.size _ _ h' s.toks ⟨gx, gy⟩ (.inl ⟨_, c4, rfl, _, rfl⟩) ⟨k _ _ D.TIz D.TIi1 D.TIi2 ip, ⟨c2, c3, a2.t1.at fun o e => k _ o D.l1z D.l1i1 D.l1i2 e, a2.t2.at fun o e => k _ o D.l2z D.l2i1 D.l2i2 e⟩, .inr ⟨T, true, oT, c1, k _ _ r.1 r.2.1 r.2.2 aT, r, rd⟩⟩ fun c o nc e => ?_
      simp only [List.mem_cons, List.not_mem_nil, or_false, not_or] at nc
      exact k c o nc.1 nc.2.2.1 nc.2.2.2 e
  · rintro s Q E ⟨ip, a2, st⟩ q
    have no : xs[xs.size]? = none ∨ ys[xs.size]? = none := .inl (Array.getElem?_eq_none (Nat.le_refl _))
    rcases st with ⟨z0, a, b, op⟩ | ⟨T, f, oT, zh, aT, r, rd⟩
    · refine pyNext_zipT_end hh D z0 ip op a2.w1 a2.w2 a2.t1 a2.t2 no fun h' k => q h' s.toks fun c o nc e => ?_
      simp only [List.mem_cons, List.not_mem_nil, or_false, not_or] at nc
      exact k c o nc.1 nc.2.1 nc.2.2.1 nc.2.2.2 e
    · refine out_end hh D zh aT ip a2 no fun h' k => q h' s.toks fun c o nc e => ?_
      simp only [List.mem_cons, List.not_mem_nil, or_false, not_or] at nc
      exact k c o nc.1 nc.2.2.1 nc.2.2.2 e
theorem arg (D : ZipApart z TI TO i1 i2 l1 l2) (len : xs.size = ys.size) : PairArg prog w "zip" z [z, TI, TO, i1, i2, l1, l2] [z, TO, i1, i2] xs.size (fun i k v => xs[i]? = some k ∧ ys[i]? = some v) (fun h => Fresh h z TI TO i1 i2 l1 l2 xs ys) where
  notDict := by decide
  type := fun _ f => ⟨_, f.z0, rfl⟩
  keep := fun h h' f k => ⟨k _ _ f.z0, k _ _ f.ip, let ⟨a, b, o⟩ := f.op; ⟨a, b, k _ _ o⟩, f.a2.up fun c _ o e => k c o e⟩
  there := fun h f b m => by
    simp only [List.mem_cons, List.not_mem_nil, or_false] at m
    obtain ⟨z0, ip, ⟨_, _, op⟩, ⟨⟨_, e1, _⟩, ⟨_, e2, _⟩, ⟨_, e3, _⟩, ⟨_, e4, _⟩⟩⟩ := f
    rcases m with e | e | e | e | e | e | e <;> subst e
    · exact ⟨_, z0⟩
    · exact ⟨_, ip⟩
    · exact ⟨_, op⟩
    · exact ⟨_, e1⟩
    · exact ⟨_, e2⟩
    · exact ⟨_, e3⟩
    · exact ⟨_, e4⟩
  sub := fun b m => by
    simp only [List.mem_cons, List.not_mem_nil, or_false] at m ⊢
    rcases m with e | e | e | e
    · exact .inl e
    · exact .inr (.inr (.inl e))
    · exact .inr (.inr (.inr (.inl e)))
    · exact .inr (.inr (.inr (.inr (.inl e))))
  noKeys := fun A s Q E hA f q => getAttrOr_miss_zip f.z0 rfl rfl rfl zip_no_keys (by decide +kernel) hA q
  iter := fun A s d Q E hA f _ off q => wpAny_pyIter_zip f.z0 (q z [z, TO, i1, i2] (Mid z TI TO i1 i2 l1 l2 d xs ys) s.heap s.toks (src hA D off len) ⟨f.ip, f.a2, .inl ⟨f.z0, f.op⟩⟩ (fun _ _ e => e) fun b m => .inl m)
end
/-- values by keys, as they stand on the heap -/
theorem kv_zip {P : Program} {w : World} : ∀ {ks : List Key} {ys : List V} {us vs : List Value}, Vals (ks.map kV) us → Vals ys vs → ks.length = ys.length →
    ∃ prs : List (Key × Value), KV (ks.zip ys) prs ∧ prs.length = ks.length ∧ ∀ (i : Nat) (u v : Value), us[i]? = some u → vs[i]? = some v → ∃ k, prs[i]? = some (k, v) ∧ (mixKind P w).is k u = true
  | [], ys, us, vs, h1, h2, _ => ⟨[], .nil, rfl, fun i u v e _ => by cases h1; simp at e⟩
  | k :: ks, [], us, vs, h1, h2, l => by simp at l
  | k :: ks, y :: ys, us, vs, h1, h2, l => by
    rw [List.map_cons] at h1
    cases h1 with
    | cons a1 t1 =>
    cases h2 with
    | cons a2 t2 =>
    obtain ⟨prs, r, pl, pf⟩ := kv_zip (P := P) (w := w) t1 t2 (by simpa using l)
    refine ⟨(k, _) :: prs, .cons ⟨rfl, a2⟩ r, by rw [List.length_cons, List.length_cons, pl], fun i u v e1 e2 => ?_⟩
    cases i with
    | zero =>
      rw [List.getElem?_cons_zero] at e1 e2
      cases e1
      cases e2
      exact ⟨k, rfl, kV_is a1⟩
    | succ i =>
      rw [List.getElem?_cons_succ] at e1 e2
      obtain ⟨k', e, h⟩ := pf i u v e1 e2
      exact ⟨k', by rw [List.getElem?_cons_succ]; exact e, h⟩
section
variable {X : Cx} {e e2 : Expr} {ta : TA} {p p2 pos pos2 : Pos}
def tDictZip (K : PySem.W.Frag) (ta : TA) : TE := fun σ H Q => ta σ H fun vs H1 => ∃ (a b : Addr) (ks : List Key) (ys : List V), vs = [.ref a, .ref b] ∧ SqT K H1 a (ks.map kV) ∧ SqT K H1 b ys ∧ ks.length = ys.length ∧ ∀ d, H1 d = none → Q (.ref d) (upd H1 d (.dK (mergeK [] (ks.zip ys))))
theorem pe_dictZip (hc : X.calm = true) (hg : Gl X "dict") (hm : X.mg "dict" = none) (hg2 : Gl X "zip") (hm2 : X.mg "zip" = none) (ha : PA X [e, e2] ta)
    (hs : starEach [e, e2] X.env = (false, eval e X.env) :: starEach [e2] X.env := by rfl) (hpl : (backTo pos2 (starEach [e2] X.env)).any (·.1) = false := by rfl) :
    PE X (.Call (.Name "dict" p) [.Call (.Name "zip" p2) [e, e2] [] pos2] [] pos) (tDictZip X.K ta) := by
  refine ⟨fun pins s σ H Q I h => ?_⟩
  refine wpAny_Call_Name_kw (ld_blt I hg hm (by rfl) ?_ (by decide) (by decide))
  refine PyProof.Rows.callWith_type1 ?_ (by rfl) (by rfl)
  refine Calls.spliced_cons ?_
  refine Call_ (ld_blt I hg2 hm2 PyProof.Rows.boot_zip (PyProof.Rows.callWith_type1 (thn (ha.run pos2 pins s σ H _ I h) fun us s1 ⟨vs, H1, I1, r1, a, b, ks, ys, ex, sa, sb, len, q⟩ => ?_) hs hpl))
  subst ex
  obtain ⟨u1, u2, eu, ra, rb⟩ := vals2 r1
  subst eu
  cases ra
  cases rb
  obtain ⟨its, rv, pa, lz⟩ := I1.tuple sa
  obtain ⟨jts, rw2, pb, _⟩ := I1.tuple sb
  have l1 := rv.length
  have l2 := rw2.length
  rw [List.length_map] at l1 lz
  obtain ⟨oa, ga, _⟩ := id pa
  obtain ⟨ob, gb, _⟩ := id pb
  refine call_zipT (show s1.heap.IsTuple a its.toArray from pa) (show s1.heap.IsTuple b jts.toArray from pb) fun h1 z0 ip op w1 w2 _ k1 => ?_
  refine Calls.spliced_nil ?_
  obtain ⟨prs, rel, pl, pf⟩ := kv_zip (P := X.prog) (w := X.w) rv rw2 len
  have ez : its.toArray.size = jts.toArray.size := by simp; omega
  have ap := PySem.W.ktu_apart s1.heap.objs.size a b (Heap.lt_size ga) (Heap.lt_size gb)
  have t1 : h1.IsTuple a its.toArray := Heap.IsTuple.at (show s1.heap.IsTuple a its.toArray from pa) fun o e => k1 _ o e
  have t2 : h1.IsTuple b jts.toArray := Heap.IsTuple.at (show s1.heap.IsTuple b jts.toArray from pb) fun o e => k1 _ o e
  refine call_dict_pairs (s := { s1 with heap := h1 }) (knd := mixKind X.prog X.w) (kvs := prs) (arg ap ez) (I.ok.hd hc) ⟨z0, ip, ⟨_, _, op⟩, ⟨w1, w2, t1, t2⟩⟩ ⟨by rw [pl]; simp; omega, fun i u v ⟨e1, e2⟩ => pf i u v (by simpa using e1) (by simpa using e2)⟩ (by simp; omega) fun h2 tk hd k2 => ?_
  have big : s1.heap.objs.size ≤ h1.objs.size := by
    refine Nat.le_of_not_lt fun z => ?_
    have := Heap.lt_size z0
    omega
  have k : ∀ c o, s1.heap.get? c = some o → h2.get? c = some o := fun c o e => by
    have lc := Heap.lt_size e
    refine k2 c o (fun m => ?_) (k1 c o e)
    simp only [List.mem_cons, List.not_mem_nil, or_false] at m
    rcases m with h | h | h | h <;> rw [h] at lc
    · exact absurd lc (Nat.not_lt.mpr (Nat.le_add_right _ _))
    · exact absurd lc (Nat.not_lt.mpr (Nat.le_add_right _ _))
    · exact absurd lc (Nat.lt_irrefl _)
    · exact absurd lc (Nat.not_lt.mpr (Nat.le_add_right _ _))
  have hm' : (h1.objs.size == sysModules) = false := beq_eq_false_iff_ne.mpr (Nat.ne_of_gt (Nat.lt_of_lt_of_le I1.big big))
  have ln : (mergeK [] (ks.zip ys)).length ≤ sizeLine := by
    refine Nat.le_trans (length_mergeK _ []) ?_
    rw [List.length_nil, Nat.zero_add, List.length_zip]
    omega
  exact ⟨.ref h1.objs.size, upd H1 h1.objs.size (.dK (mergeK [] (ks.zip ys))), I1.laid (t' := tk) k big (show ObjOk X.prog X.w _ _ _ (.dK (mergeK [] (ks.zip ys))) from ⟨ln, hm', merged [] prs, KV.merge rel .nil, hd⟩), rfl, q _ (I1.hok.fresh big)⟩
end
end Dz

/-! list(zip(a, b)) of two tuples as long as one another -/
namespace Lz
open PySem PySem.Spec PyProof.Rows L2 RZ Dz
theorem no_len : typeLookup (.type "zip") "__len__" = pure none := by rw [typeLookup_type, builtinLookup_eq_fast]; kernel_rfl
theorem no_hint : typeLookup (.type "zip") "__length_hint__" = pure none := by rw [typeLookup_type, builtinLookup_eq_fast]; kernel_rfl
section
variable {prog : Program} {w : World} {A : Around} {E : Value → Shared → Prop} {s : Shared} {z TI TO i1 i2 l1 l2 d : Addr} {xs ys : Array Value}
theorem pair_next {i : Nat} {x y : Value} {Q : Option Value → Shared → Prop} (D : ZipApart z TI TO i1 i2 l1 l2) (m : Mid z TI TO i1 i2 l1 l2 d xs ys i s.heap) (ld : d < s.heap.objs.size) (gx : xs[i]? = some x) (gy : ys[i]? = some y)
    (q : ∀ h', IsPair h' s.heap.objs.size x y → Mid z TI TO i1 i2 l1 l2 d xs ys (i + 1) h' → (∀ c o, c ∉ [z, TO, i1, i2] → s.heap.get? c = some o → h'.get? c = some o) → Q (some (.ref s.heap.objs.size)) { s with heap := h' }) :
    wpAny (model prog w) A (pyNext (.ref z)) Q E s := by
  obtain ⟨ip, a2, st⟩ := m
  have old : ∀ {c : Addr} {o : Obj}, s.heap.get? c = some o → s.heap.objs.size ≠ c := fun e => (Nat.ne_of_lt (Heap.lt_size e)).symm
  have o1 : s.heap.objs.size ≠ i1 := let ⟨_, e, _⟩ := a2.w1; old e
  have o2 : s.heap.objs.size ≠ i2 := let ⟨_, e, _⟩ := a2.w2; old e
  rcases st with ⟨z0, a, b, op⟩ | ⟨T, f, oT, zh, aT, r, rd⟩
  · refine pyNext_zipT_item D z0 ip op a2.w1 a2.w2 a2.t1 a2.t2 gx gy fun h' c1 c2 c3 c4 c5 _ k => q h' c5 ⟨k _ _ D.TIz D.TITO D.TIi1 D.TIi2 ip, ⟨c3, c4, a2.t1.at fun o e => k _ o D.l1z D.l1TO D.l1i1 D.l1i2 e, a2.t2.at fun o e => k _ o D.l2z D.l2TO D.l2i1 D.l2i2 e⟩, .inr ⟨s.heap.objs.size, false, _, c1, c5, ⟨old z0, o1, o2⟩, (Nat.ne_of_lt ld).symm⟩⟩ fun c o nc e => ?_
    simp only [List.mem_cons, List.not_mem_nil, or_false, not_or] at nc
    exact k c o nc.1 nc.2.1 nc.2.2.1 nc.2.2.2 e
  · refine out_item D zh aT ip a2 gx gy fun h' c1 c2 c3 c4 k => q h' c4 ⟨k _ _ D.TIz D.TIi1 D.TIi2 ip, ⟨c2, c3, a2.t1.at fun o e => k _ o D.l1z D.l1i1 D.l1i2 e, a2.t2.at fun o e => k _ o D.l2z D.l2i1 D.l2i2 e⟩, .inr ⟨T, true, oT, c1, k _ _ r.1 r.2.1 r.2.2 aT, r, rd⟩⟩ fun c o nc e => ?_
    simp only [List.mem_cons, List.not_mem_nil, or_false, not_or] at nc
    exact k c o nc.1 nc.2.2.1 nc.2.2.2 e
/-- the list so far: its pairs, each new -/
structure Made (h : Heap) (b1 : Nat) (xs ys acc : Array Value) (i : Nat) : Prop where
  size : acc.size = i
  at_ : ∀ j x y, j < i → xs[j]? = some x → ys[j]? = some y → ∃ T, acc[j]? = some (.ref T) ∧ IsPair h T x y ∧ b1 ≤ T
  ref : ∀ j, j < i → ∃ T, acc[j]? = some (.ref T) ∧ T < h.objs.size
  inj : ∀ (j k : Nat) (T : Addr), acc[j]? = some (.ref T) → acc[k]? = some (.ref T) → j = k
theorem Made.on {h h' : Heap} {b1 : Nat} {acc : Array Value} {i : Nat} (m : Made h b1 xs ys acc i) (k : ∀ c o, b1 ≤ c → h.get? c = some o → h'.get? c = some o) (le : h.objs.size ≤ h'.objs.size) : Made h' b1 xs ys acc i :=
  ⟨m.size, fun j x y l e1 e2 => let ⟨T, a, b, c⟩ := m.at_ j x y l e1 e2; ⟨T, a, k T _ c b, c⟩, fun j l => let ⟨T, a, b⟩ := m.ref j l; ⟨T, a, Nat.lt_of_lt_of_le b le⟩, m.inj⟩
theorem Made.push {h h' : Heap} {b1 : Nat} {acc : Array Value} {i : Nat} {x y : Value} (m : Made h b1 xs ys acc i) (k : ∀ c o, b1 ≤ c → h.get? c = some o → h'.get? c = some o) (hb : b1 ≤ h.objs.size) (p : IsPair h' h.objs.size x y) (ex : xs[i]? = some x) (ey : ys[i]? = some y) :
    Made h' b1 xs ys (acc.push (.ref h.objs.size)) (i + 1) := by
  have lt := Heap.lt_size p
  have sz := m.size
  have get : ∀ j, (acc.push (.ref h.objs.size))[j]? = if j = acc.size then some (Value.ref h.objs.size) else acc[j]? := fun j => by rw [Array.getElem?_push]
  refine ⟨by rw [Array.size_push, sz], fun j u v l e1 e2 => ?_, fun j l => ?_, fun j j' T e1 e2 => ?_⟩
  · rw [get]
    by_cases c : j = acc.size
    · rw [if_pos c]
      rw [c, sz] at e1 e2
      rw [ex] at e1; rw [ey] at e2
      cases e1; cases e2
      exact ⟨_, rfl, p, hb⟩
    · rw [if_neg c]
      obtain ⟨T, a, b, cc⟩ := m.at_ j u v (by omega) e1 e2
      exact ⟨T, a, k T _ cc b, cc⟩
  · rw [get]
    by_cases c : j = acc.size
    · rw [if_pos c]; exact ⟨_, rfl, lt⟩
    · rw [if_neg c]
      obtain ⟨T, a, b⟩ := m.ref j (by omega)
      exact ⟨T, a, Nat.lt_trans b lt⟩
  · rw [get] at e1 e2
    have no : ∀ j, acc[j]? ≠ some (Value.ref h.objs.size) := fun j e => by
      have hj : j < acc.size := (Array.getElem?_eq_some_iff.mp e).1
      obtain ⟨T, a, b⟩ := m.ref j (by omega)
      rw [e] at a
      cases a
      exact Nat.lt_irrefl _ b
    by_cases c : j = acc.size
    · rw [if_pos c] at e1
      by_cases c' : j' = acc.size
      · rw [c, c']
      · rw [if_neg c'] at e2
        cases e1
        exact (no _ e2).elim
    · rw [if_neg c] at e1
      by_cases c' : j' = acc.size
      · rw [if_pos c'] at e2
        cases e2
        exact (no _ e1).elim
      · rw [if_neg c'] at e2
        exact m.inj _ _ _ e1 e2
/-- the loop that takes the pairs in -/
theorem fill {S : Addr} {b1 : Nat} {h0 : Heap} {res : Value} {R : Result → Shared → Prop} (hh : A.in1.handled = none) (D : ZipApart z TI TO i1 i2 l1 l2) (off : S ∉ [z, TI, TO, i1, i2, l1, l2]) (len : xs.size = ys.size) (hz : xs.size ≤ sizeLine) (low : z < b1 ∧ TO < b1 ∧ i1 < b1 ∧ i2 < b1 ∧ S < b1)
    (new : ∀ c ∈ [z, TO, i1, i2, S], h0.get? c = none) :
    ∀ (k i : Nat) (s : Shared) (acc : Array Value) (c : Nat), xs.size - i = k → i ≤ xs.size → Mid z TI TO i1 i2 l1 l2 S xs ys i s.heap → s.heap.get? S = some { cls := .type "list", dict := none, data := .seq acc c, slots := #[] } → Made s.heap b1 xs ys acc i → b1 ≤ s.heap.objs.size →
      (∀ b o, h0.get? b = some o → s.heap.get? b = some o) →
      (∀ h' tk acc' c', h'.get? S = some { cls := .type "list", dict := none, data := .seq acc' c', slots := #[] } → Made h' b1 xs ys acc' xs.size → (∀ b o, h0.get? b = some o → h'.get? b = some o) → R (.ok (.ret res)) { s with heap := h', toks := tk }) →
      codeAny (model prog w) A (.builtin "list.extend.loop" ⟨[.ref S, .ref z, res], []⟩) R s := by
  have SR := src (prog := prog) (w := w) (A := A.in1) hh D off len
  have nS : S ∉ [z, TO, i1, i2] := SR.off
  have lowc : ∀ c, b1 ≤ c → c ∉ [z, TO, i1, i2] ∧ c ≠ S := fun c hc => by
    simp only [List.mem_cons, List.not_mem_nil, or_false, not_or]
    have ne : ∀ q, q < b1 → ¬ c = q := fun q hq e => absurd hc (by rw [e]; exact Nat.not_le.mpr hq)
    exact ⟨⟨ne _ low.1, ne _ low.2.1, ne _ low.2.2.1, ne _ low.2.2.2.1⟩, ne _ low.2.2.2.2⟩
  have newc : ∀ b o, h0.get? b = some o → b ∉ [z, TO, i1, i2] ∧ b ≠ S := fun b o e => by
    have no : ∀ c ∈ [z, TO, i1, i2, S], b ≠ c := fun c hc x => by rw [x, new c hc] at e; cases e
    refine ⟨fun m => ?_, no S (by simp)⟩
    simp only [List.mem_cons, List.not_mem_nil, or_false] at m
    rcases m with m | m | m | m
    · exact no z (by simp) m
    · exact no TO (by simp) m
    · exact no i1 (by simp) m
    · exact no i2 (by simp) m
  intro k
  induction k with
  | zero =>
    intro i s acc c hk hi mid hS made hb old hR
    obtain rfl : i = xs.size := by omega
    refine codeAny_builtin F.entry_extend_loop ?_
    rw [Around.under_plainId F.plain_extend_loop _]
    show wpAny _ A.in1 (pyNext (.ref z) >>= _) _ _ s
    refine wpAny_bind (SR.done s _ _ mid fun h' tk kp => wpAny_pure (hR h' tk acc c (kp _ _ nS hS) ?_ fun b o e => kp _ _ (newc b o e).1 (old b o e)))
    refine ⟨made.size, fun j x y l e1 e2 => ?_, fun j l => ?_, made.inj⟩
    · obtain ⟨T, a, b, cc⟩ := made.at_ j x y l e1 e2
      exact ⟨T, a, kp _ _ (lowc T cc).1 b, cc⟩
    · obtain ⟨T, a, b, cc⟩ := made.at_ j xs[j] (ys[j]'(len ▸ l)) l (Array.getElem?_eq_getElem l) (Array.getElem?_eq_getElem (len ▸ l))
      exact ⟨T, a, Heap.lt_size (kp _ _ (lowc T cc).1 b)⟩
  | succ k ih =>
    intro i s acc c hk hi mid hS made hb old hR
    have li : i < xs.size := by omega
    have gx : xs[i]? = some xs[i] := Array.getElem?_eq_getElem li
    have gy : ys[i]? = some (ys[i]'(len ▸ li)) := Array.getElem?_eq_getElem (len ▸ li)
    refine codeAny_builtin F.entry_extend_loop ?_
    rw [Around.under_plainId F.plain_extend_loop _]
    show wpAny _ A.in1 (pyNext (.ref z) >>= _) _ _ s
    refine wpAny_bind (pair_next D mid (Heap.lt_size hS) gx gy fun h' p mid' kp => ?_)
    have hS' := kp _ _ nS hS
    have lt := Heap.lt_size p
    show wpAny _ A.in1 (updateSeq S (·.push (.ref s.heap.objs.size)) >>= _) _ _ _
    refine wpAny_bind (wpAny_updateSeq hS' rfl (wpAny_pure ⟨plainId_quiet F.plain_extend_loop _, ih (i + 1) _ (acc.push (.ref s.heap.objs.size)) _ (by omega) li ?_ (Heap.get?_update_self _ hS' rfl) ?_ ?_ ?_ fun h2 tk acc' c' g1 g2 g3 => hR h2 tk acc' c' g1 g2 g3⟩)
      (by have := made.size; first | omega | (show _ ≤ _; omega) | skip) (by show (acc.push _).size ≤ sizeLine + 1; rw [Array.size_push, made.size]; omega))
    · exact SR.frame _ _ _ mid' fun b o nb e => (Heap.get?_update_other _ _ nb.symm).trans e
    · have m2 := made.push (fun c o hc e => kp c o (lowc c hc).1 e) hb p gx gy
      exact m2.on (fun c o hc e => (Heap.get?_update_other _ _ (lowc c hc).2.symm).trans e) (Nat.le_of_eq (Heap.size_update ..).symm)
    · show b1 ≤ (Heap.update h' S _).objs.size
      rw [Heap.size_update]; exact Nat.le_trans hb (Nat.le_of_lt lt)
    · exact fun b o e => (Heap.get?_update_other _ _ (newc b o e).2.symm).trans (kp _ _ (newc b o e).1 (old b o e))
theorem extend_zip {S : Addr} {h0 : Heap} {b1 : Nat} {res : Value} {R : Result → Shared → Prop} {c0 : Nat} (hh : A.in1.in1.handled = none) (D : ZipApart z TI TO i1 i2 l1 l2) (off : S ∉ [z, TI, TO, i1, i2, l1, l2]) (len : xs.size = ys.size) (hz : xs.size ≤ sizeLine) (low : z < b1 ∧ TO < b1 ∧ i1 < b1 ∧ i2 < b1 ∧ S < b1)
    (new : ∀ c ∈ [z, TO, i1, i2, S], h0.get? c = none) (F0 : Fresh s.heap z TI TO i1 i2 l1 l2 xs ys) (hS : s.heap.get? S = some { cls := .type "list", data := .seq #[] c0 }) (hb : b1 ≤ s.heap.objs.size) (old : ∀ b o, h0.get? b = some o → s.heap.get? b = some o)
    (hR : ∀ h' tk acc' c', h'.get? S = some { cls := .type "list", dict := none, data := .seq acc' c', slots := #[] } → Made h' b1 xs ys acc' xs.size → (∀ b o, h0.get? b = some o → h'.get? b = some o) → R (.ok (.ret res)) { s with heap := h', toks := tk }) :
    wpAny (model prog w) A.in1 (Builtin.List.listExtendWith (.ref S) (.ref z) res) (fun fin s' => match fin with | .done f => R (.ok f) s' | .again c' => c'.quiet = true ∧ codeAny (model prog w) A c' R s') (fun e s' => R (.error e) s') s := by
  have SR := src (prog := prog) (w := w) (A := A.in1) (by simpa using hh) D off len
  have ne : S ≠ z := fun e => off (by rw [e]; simp)
  have ty : s.TypeIs (.ref z) "zip" := ⟨_, F0.z0, rfl⟩
  unfold Builtin.List.listExtendWith
  refine wpAny_bind (wpAny_typeOf ty ?_)
  simp only [show Builtin.List.listSameRef (.ref S) (.ref z) = false from by simp [Builtin.List.listSameRef, ne], show (Value.type "zip" == Value.type "list") = false from by decide, show (Value.type "zip" == Value.type "tuple") = false from by decide, Bool.or_false, Bool.false_eq_true, if_false]
  refine wpAny_bind (wpAny_pyIter_zip F0.z0 (wpAny_bind (wpAny_holding ?_)))
  unfold Builtin.List.listLengthHint
  refine wpAny_bind (wpAny_specialOf ty no_len ?_)
  show wpAny _ A.in1 (specialOf (Value.ref z) (Str.ofString "__length_hint__") >>= _) _ _ _
  refine wpAny_bind (wpAny_specialOf ty no_hint (wpAny_pure ?_))
  show wpAny _ A.in1 (rule "list.extend.makes-room" >>= fun _ => Builtin.List.listTouch (.ref S) >>= fun _ => again (.builtin "list.extend.loop" ⟨[.ref S, .ref z, res], []⟩)) _ _ _
  refine wpAny_bind (wpAny_rule (wpAny_bind ?_))
  show wpAny _ A.in1 (updateSeq S (·.push .none) >>= fun _ => updateSeq S (·.pop)) _ _ _
  refine wpAny_bind (wpAny_updateSeq hS rfl ?_)
  have hS2 := Heap.get?_update_self (Obj.mapSeq (·.push Value.none)) hS rfl
  refine wpAny_updateSeq (hz := by seq_fits) hS2 rfl ?_
  have hS3 := Heap.get?_update_self (Obj.mapSeq (·.pop)) hS2 rfl
  have oth : ∀ b o, b ≠ S → s.heap.get? b = some o → ((s.heap.update S (Obj.mapSeq (·.push Value.none))).update S (Obj.mapSeq (·.pop))).get? b = some o := fun b o nb e => (Heap.get?_update_other _ _ nb.symm).trans ((Heap.get?_update_other _ _ nb.symm).trans e)
  have mid0 : Mid z TI TO i1 i2 l1 l2 S xs ys 0 s.heap := ⟨F0.ip, F0.a2, .inl ⟨F0.z0, F0.op⟩⟩
  refine wpAny_pure ⟨plainId_quiet F.plain_extend_loop _, fill (by simpa using hh) D off len hz low new xs.size 0 _ #[] _ rfl (Nat.zero_le _) (SR.frame _ _ _ mid0 oth) hS3 ⟨rfl, fun j _ _ h => absurd h (Nat.not_lt_zero _), fun j h => absurd h (Nat.not_lt_zero _), fun j k T e => by simp at e⟩ ?_ (fun b o e => oth b o (fun x => ?_) (old b o e)) hR⟩
  · show b1 ≤ (Heap.update (Heap.update s.heap S _) S _).objs.size
    rw [Heap.size_update, Heap.size_update]; exact hb
  · rw [x, new S (by simp)] at e; cases e
theorem list_zip {h0 : Heap} {Q : Value → Shared → Prop} (hh : A.handled = none) (D : ZipApart z TI TO i1 i2 l1 l2) (len : xs.size = ys.size) (hz : xs.size ≤ sizeLine) (F0 : Fresh s.heap z TI TO i1 i2 l1 l2 xs ys) (new : ∀ c ∈ [z, TO, i1, i2], h0.get? c = none) (old : ∀ b o, h0.get? b = some o → s.heap.get? b = some o)
    (q : ∀ h' tk acc' c', h'.get? s.heap.objs.size = some { cls := .type "list", dict := none, data := .seq acc' c', slots := #[] } → Made h' (s.heap.objs.size + 1) xs ys acc' xs.size → (∀ b o, h0.get? b = some o → h'.get? b = some o) → Q (.ref s.heap.objs.size) { s with heap := h', toks := tk }) :
    wpAny (model prog w) A (call (.type "list") [.ref z]) Q E s := by
  have there : ∀ c ∈ [z, TI, TO, i1, i2, l1, l2], c < s.heap.objs.size := fun c hc => by
    obtain ⟨o, e⟩ := (arg (prog := prog) (w := w) D len).there s.heap F0 c hc
    exact Heap.lt_size e
  have off : s.heap.objs.size ∉ [z, TI, TO, i1, i2, l1, l2] := fun hm => Nat.lt_irrefl _ (there _ hm)
  have noS : h0.get? s.heap.objs.size = none := by
    cases e : h0.get? s.heap.objs.size with
    | none => rfl
    | some o => exact absurd (Heap.lt_size (old _ _ e)) (Nat.lt_irrefl _)
  have up : ∀ c ∈ [z, TI, TO, i1, i2, l1, l2], c < s.heap.objs.size + 1 := fun c hc => Nat.lt_succ_of_lt (there c hc)
  refine callType_codes (Q₁ := fun obj s₁ => obj = .ref s.heap.objs.size ∧ s₁ = { s with heap := s.heap.push { cls := .type "list", data := .seq #[] } }) F.called_list (F.typeCall_list_1 _) F.entry_list_init (code_list_new _ ⟨rfl, rfl⟩) fun obj s₁ h₁ => ?_
  obtain ⟨rfl, rfl⟩ := h₁
  have hS : (s.heap.push { cls := .type "list", data := .seq #[] }).get? s.heap.objs.size = some { cls := .type "list", data := .seq #[] } := Heap.get?_push_size _ rfl
  refine ⟨⟨_, hS, rfl⟩, F.args_list_init_2 _ _, ?_⟩
  show wpAny _ A.in1.in1 (do let old ← Builtin.List.listItems (.ref s.heap.objs.size); Builtin.List.listUpdate (.ref s.heap.objs.size) (fun _ => #[]); letGo old.toList.reverse; Builtin.List.listExtendWith (.ref s.heap.objs.size) (.ref z) .none) _ _ _
  refine wpAny_bind ?_
  unfold Builtin.List.listItems
  refine wpAny_bind (wpAny_seqItems hS rfl (wpAny_pure ?_))
  show wpAny _ A.in1.in1 (updateSeq s.heap.objs.size (fun _ => #[]) >>= fun _ => letGo (#[] : Array Value).toList.reverse >>= fun _ => Builtin.List.listExtendWith (.ref s.heap.objs.size) (.ref z) .none) _ _ _
  refine wpAny_bind (wpAny_updateSeq hS rfl ?_)
  have hS2 := Heap.get?_update_self (Obj.mapSeq (fun _ => (#[] : Array Value))) hS rfl
  refine wpAny_bind (wpAny_letGo ?_)
  have kept : ∀ b o, b ≠ s.heap.objs.size → s.heap.get? b = some o → ((s.heap.push { cls := .type "list", data := .seq #[] }).update s.heap.objs.size (Obj.mapSeq (fun _ => (#[] : Array Value)))).get? b = some o := fun b o nb e => (Heap.get?_update_other _ _ nb.symm).trans (Heap.get?_push_of_some _ e)
  have F1 : Fresh ((s.heap.push { cls := .type "list", data := .seq #[] }).update s.heap.objs.size (Obj.mapSeq (fun _ => (#[] : Array Value)))) z TI TO i1 i2 l1 l2 xs ys := by
    have kk : ∀ c ∈ [z, TI, TO, i1, i2, l1, l2], ∀ o, s.heap.get? c = some o → _ := fun c hc o e => kept c o (fun x => off (x ▸ hc)) e
    exact ⟨kk z (by simp) _ F0.z0, kk TI (by simp) _ F0.ip, let ⟨a, b, o⟩ := F0.op; ⟨a, b, kk TO (by simp) _ o⟩, F0.a2.up fun c hc o e => kk c (by rcases hc with rfl | rfl | rfl | rfl <;> simp) o e⟩
  refine extend_zip (A := A.in1) (h0 := h0) (b1 := s.heap.objs.size + 1) (by simpa using hh) D off len hz ⟨up z (by simp), up TO (by simp), up i1 (by simp), up i2 (by simp), Nat.lt_succ_self _⟩ (fun c hc => ?_) F1 hS2 ?_ (fun b o e => kept b o (fun x => by rw [x, noS] at e; cases e) (old b o e)) fun h' tk acc' c' g1 g2 g3 => ⟨rfl, q h' tk acc' c' g1 g2 g3⟩
  · simp only [List.mem_cons, List.not_mem_nil, or_false] at hc
    rcases hc with rfl | rfl | rfl | rfl | rfl
    · exact new _ (by simp)
    · exact new _ (by simp)
    · exact new _ (by simp)
    · exact new _ (by simp)
    · exact noS
  · show s.heap.objs.size + 1 ≤ (Heap.update (s.heap.push _) s.heap.objs.size _).objs.size
    rw [Heap.size_update, Heap.size_push]; exact Nat.le_refl _
end
/-! ### several new objects at once -/
/-- H with these new objects -/
def news (H : Hp) : List (Addr × HO) → Hp
  | [] => H
  | (T, o) :: r => upd (news H r) T o
theorem news_old {H : Hp} : ∀ {l : List (Addr × HO)} {b : Addr}, (∀ p ∈ l, p.1 ≠ b) → news H l b = H b
  | [], _, _ => rfl
  | (T, o) :: r, b, h => by
    show upd (news H r) T _ b = _
    rw [upd_ne (h (T, o) List.mem_cons_self).symm]
    exact news_old fun p hp => h p (List.mem_cons_of_mem _ hp)
theorem news_at {H : Hp} : ∀ {l : List (Addr × HO)}, (l.map (·.1)).Nodup → ∀ {p : Addr × HO}, p ∈ l → news H l p.1 = some p.2
  | (T, o) :: r, nd, p, hp => by
    show upd (news H r) T _ p.1 = _
    obtain ⟨n1, n2⟩ := List.nodup_cons.mp nd
    rcases List.mem_cons.mp hp with rfl | hp
    · exact upd_same
    · rw [upd_ne (fun e => n1 (List.mem_map.mpr ⟨p, hp, e⟩))]
      exact news_at n2 hp
section
variable {P : Program} {w : World}
theorem news_hok {l : List (Addr × HO)} {H : Hp} {h h' : Heap} (ok : HOk P w H h) (k : ∀ b u, h.get? b = some u → h'.get? b = some u) (hl : ∀ p ∈ l, h.objs.size ≤ p.1 ∧ ∀ G, ObjOk P w G h' p.1 p.2) (nd : (l.map (·.1)).Nodup) : HOk P w (news H l) h' := by
  intro b u e
  by_cases c : b ∈ l.map (·.1)
  · obtain ⟨p, hp, rfl⟩ := List.mem_map.mp c
    rw [news_at nd hp] at e
    cases e
    exact (hl p hp).2 _
  · have no : ∀ p ∈ l, p.1 ≠ b := fun p hp z => c (List.mem_map.mpr ⟨p, hp, z⟩)
    rw [news_old no] at e
    have fr : ∀ p ∈ l, H p.1 = none := fun p hp => ok.fresh (hl p hp).1
    have keep : ∀ q o, H q = some o → news H l q = some o := fun q o eq => by
      rw [news_old fun p hp z => by rw [← z, fr p hp] at eq; cases eq]
      exact eq
    exact (ok b u e).stay (fun c v _ q => k c v q) (fun c q => keep _ _ q) fun c xs q => keep _ _ q
theorem news_un {fs ex : List Addr} {l : List (Addr × HO)} {H : Hp} {h h' : Heap} (ok : HOk P w H h) (k : ∀ b u, h.get? b = some u → h'.get? b = some u) (hl : ∀ p ∈ l, h.objs.size ≤ p.1) : Un fs ex H (news H l) h h' := by
  have fr : ∀ p ∈ l, H p.1 = none := fun p hp => ok.fresh (hl p hp)
  have keep : ∀ q o, H q = some o → news H l q = some o := fun q o eq => by
    rw [news_old fun p hp z => by rw [← z, fr p hp] at eq; cases eq]
    exact eq
  exact ⟨fun b u q _ _ _ => k b u q, fun b u q _ _ _ => ⟨u.slots, k b u q⟩, fun b u q n _ => by
      rw [news_old fun p hp z => Nat.lt_irrefl _ (Nat.lt_of_lt_of_le (z ▸ Heap.lt_size q) (hl p hp))]; exact n, fun b u q _ => ⟨u, k b u q⟩, fun b xs q => keep _ _ q, fun b u xs q => keep _ _ q, fun b ps q => ⟨#[], by rw [keep _ _ q]; simp⟩⟩
end
theorem refs_of : ∀ (vs : List Value), (∀ v ∈ vs, ∃ T, v = Value.ref T) → ∃ Ts : List Addr, vs = Ts.map Value.ref
  | [], _ => ⟨[], rfl⟩
  | v :: r, h => by
    obtain ⟨T, rfl⟩ := h v List.mem_cons_self
    obtain ⟨Ts, e⟩ := refs_of r fun u m => h u (List.mem_cons_of_mem _ m)
    exact ⟨T :: Ts, by rw [e]; rfl⟩
theorem refs_vals : ∀ Ts : List Addr, Vals (Ts.map V.ref) (Ts.map Value.ref)
  | [] => .nil
  | T :: r => .cons rfl (refs_vals r)
theorem Made.addrs {h : Heap} {b1 : Nat} {xs ys acc : Array Value} {n : Nat} (m : Made h b1 xs ys acc n) : ∃ Ts : List Addr, acc.toList = Ts.map Value.ref ∧ Ts.length = n ∧ Ts.Nodup ∧ ∀ (i : Nat) (T : Addr) x y, Ts[i]? = some T → xs[i]? = some x → ys[i]? = some y → IsPair h T x y ∧ b1 ≤ T := by
  obtain ⟨Ts, e⟩ := refs_of acc.toList fun v hv => by
    obtain ⟨j, hj⟩ := List.getElem?_of_mem hv
    rw [Array.getElem?_toList] at hj
    have lj : j < acc.size := (Array.getElem?_eq_some_iff.mp hj).1
    obtain ⟨T, a, _⟩ := m.ref j (by rw [← m.size]; exact lj)
    rw [hj] at a
    exact ⟨T, Option.some.inj a⟩
  have at_ : ∀ {i T}, Ts[i]? = some T → acc[i]? = some (Value.ref T) := fun {i T} h => by
    rw [← Array.getElem?_toList, e, List.getElem?_map, h]; rfl
  have len : Ts.length = n := by rw [← m.size, ← Array.length_toList, e, List.length_map]
  refine ⟨Ts, e, len, ?_, fun i T x y g1 g2 g3 => ?_⟩
  · show Ts.Pairwise (· ≠ ·)
    rw [List.pairwise_iff_getElem]
    intro i j hi hj hij q
    have a1 := at_ (List.getElem?_eq_getElem hi)
    have a2 := at_ (List.getElem?_eq_getElem hj)
    rw [← q] at a2
    exact absurd (m.inj _ _ _ a1 a2) (Nat.ne_of_lt hij)
  · have li : i < Ts.length := (List.getElem?_eq_some_iff.mp g1).1
    obtain ⟨T', a, b, c⟩ := m.at_ i x y (len ▸ li) g2 g3
    rw [at_ g1] at a
    cases a
    exact ⟨b, c⟩
/-- the pairs as objects -/
def prs : List Addr → List V → List V → List (Addr × HO)
  | T :: Ts, x :: xs, y :: ys => (T, .tup [x, y]) :: prs Ts xs ys
  | _, _, _ => []
theorem prs_fst : ∀ {Ts : List Addr} {xs ys : List V}, Ts.length = xs.length → xs.length = ys.length → (prs Ts xs ys).map (·.1) = Ts
  | [], [], [], _, _ => rfl
  | T :: Ts, x :: xs, y :: ys, h, g => by
    show T :: (prs Ts xs ys).map (·.1) = _
    rw [prs_fst (by simpa using h) (by simpa using g)]
theorem prs_at : ∀ {Ts : List Addr} {xs ys : List V} {i : Nat} {T : Addr} {x y : V}, Ts[i]? = some T → xs[i]? = some x → ys[i]? = some y → (T, HO.tup [x, y]) ∈ prs Ts xs ys
  | T' :: Ts, x' :: xs, y' :: ys, 0, T, x, y, a, b, c => by
    simp only [List.getElem?_cons_zero, Option.some.injEq] at a b c
    subst a b c
    exact List.mem_cons_self
  | T' :: Ts, x' :: xs, y' :: ys, i + 1, T, x, y, a, b, c => by
    simp only [List.getElem?_cons_succ] at a b c
    exact List.mem_cons_of_mem _ (prs_at a b c)
  | [], _, _, i, T, x, y, a, _, _ => by simp at a
  | _ :: _, [], _, i, T, x, y, _, b, _ => by simp at b
  | _ :: _, _ :: _, [], i, T, x, y, _, _, c => by simp at c
theorem prs_mem : ∀ {Ts : List Addr} {xs ys : List V} {p : Addr × HO}, p ∈ prs Ts xs ys → ∃ (i : Nat) (x y : V), Ts[i]? = some p.1 ∧ xs[i]? = some x ∧ ys[i]? = some y ∧ p.2 = .tup [x, y]
  | T' :: Ts, x' :: xs, y' :: ys, p, h => by
    rcases List.mem_cons.mp h with rfl | h
    · exact ⟨0, x', y', rfl, rfl, rfl, rfl⟩
    · obtain ⟨i, x, y, a, b, c, d⟩ := prs_mem h
      exact ⟨i + 1, x, y, a, b, c, d⟩
  | [], _, _, p, h => nomatch h
  | _ :: _, [], _, p, h => nomatch h
  | _ :: _, _ :: _, [], p, h => nomatch h
/-! ### the rule -/
section
variable {X : Cx} {e e2 : Expr} {ta : TA} {p p2 pos pos2 : Pos}
def tListZip (K : PySem.W.Frag) (ta : TA) : TE := fun σ H Q => ta σ H fun vs H1 => ∃ (a b : Addr) (xs ys : List V), vs = [.ref a, .ref b] ∧ SqT K H1 a xs ∧ SqT K H1 b ys ∧ xs.length = ys.length ∧
  ∀ (l : Addr) (Ts : List Addr) (H' : Hp), Same H1 H' → H1 l = none → H' l = some (.lst (Ts.map V.ref)) → Ts.length = xs.length → (∀ (i : Nat) T x y, Ts[i]? = some T → xs[i]? = some x → ys[i]? = some y → H' T = some (.tup [x, y])) → Q (.ref l) H'
theorem pe_listZip (hc : X.calm = true) (hg : Gl X "list") (hm : X.mg "list" = none) (hg2 : Gl X "zip") (hm2 : X.mg "zip" = none) (ha : PA X [e, e2] ta)
    (hs : starEach [e, e2] X.env = (false, eval e X.env) :: starEach [e2] X.env := by rfl) (hpl : (backTo pos2 (starEach [e2] X.env)).any (·.1) = false := by rfl) :
    PE X (.Call (.Name "list" p) [.Call (.Name "zip" p2) [e, e2] [] pos2] [] pos) (tListZip X.K ta) := by
  refine ⟨fun pins s σ H Q I h => ?_⟩
  refine wpAny_Call_Name_kw (ld_blt I hg hm (by rfl) ?_ (by decide) (by decide))
  refine PyProof.Rows.callWith_type1 ?_ (by rfl) (by rfl)
  refine Calls.spliced_cons ?_
  refine Call_ (ld_blt I hg2 hm2 PyProof.Rows.boot_zip (PyProof.Rows.callWith_type1 (thn (ha.run pos2 pins s σ H _ I h) fun us s1 ⟨vs, H1, I1, r1, a, b, xs, ys, ex, sa, sb, len, q⟩ => ?_) hs hpl))
  subst ex
  obtain ⟨u1, u2, eu, ra, rb⟩ := vals2 r1
  subst eu
  cases ra
  cases rb
  obtain ⟨its, rv, pa, lz⟩ := I1.tuple sa
  obtain ⟨jts, rw2, pb, _⟩ := I1.tuple sb
  have k1 := rv.length
  have k2 := rw2.length
  obtain ⟨oa, ga, _⟩ := id pa
  obtain ⟨ob, gb, _⟩ := id pb
  refine call_zipT (show s1.heap.IsTuple a its.toArray from pa) (show s1.heap.IsTuple b jts.toArray from pb) fun h1 z0 ip op w1 w2 sz kk => ?_
  refine Calls.spliced_nil ?_
  have ez : its.toArray.size = jts.toArray.size := by simp; omega
  have ap := PySem.W.ktu_apart s1.heap.objs.size a b (Heap.lt_size ga) (Heap.lt_size gb)
  have t1 : h1.IsTuple a its.toArray := Heap.IsTuple.at (show s1.heap.IsTuple a its.toArray from pa) fun o e => kk _ o e
  have t2 : h1.IsTuple b jts.toArray := Heap.IsTuple.at (show s1.heap.IsTuple b jts.toArray from pb) fun o e => kk _ o e
  have none0 : ∀ c, s1.heap.objs.size ≤ c → s1.heap.get? c = none := fun c hc => by
    cases e : s1.heap.get? c with
    | none => rfl
    | some o => exact absurd (Heap.lt_size e) (Nat.not_lt_of_le hc)
  refine list_zip (s := { s1 with heap := h1 }) (h0 := s1.heap) (I1.ok.hd hc) ap ez (by simp; omega) ⟨z0, ip, ⟨_, _, op⟩, ⟨w1, w2, t1, t2⟩⟩ (fun c hc => none0 c ?_) kk fun h' tk acc c' g1 g2 g3 => ?_
  · simp only [List.mem_cons, List.not_mem_nil, or_false] at hc
    rcases hc with rfl | rfl | rfl | rfl
    · exact Nat.le_add_right _ _
    · exact Nat.le_add_right _ _
    · exact Nat.le_refl _
    · exact Nat.le_add_right _ _
  · obtain ⟨Ts, ea, el, nd, tp⟩ := g2.addrs
    have g1 : h'.get? h1.objs.size = some { cls := .type "list", data := .seq acc c' } := g1
    have ei : its.toArray.size = xs.length := by simp; omega
    have big : s1.heap.objs.size ≤ h1.objs.size := by
      refine Nat.le_of_not_lt fun z => ?_
      have := Heap.lt_size z0
      omega
    have fresh : ∀ T ∈ Ts, h1.objs.size + 1 ≤ T := fun T hT => by
      obtain ⟨i, e⟩ := List.getElem?_of_mem hT
      have li : i < Ts.length := (List.getElem?_eq_some_iff.mp e).1
      have l1 : i < its.toArray.size := by omega
      have l2 : i < jts.toArray.size := by omega
      exact (tp i T _ _ e (Array.getElem?_eq_getElem l1) (Array.getElem?_eq_getElem l2)).2
    have pf : (prs Ts xs ys).map (·.1) = Ts := prs_fst (by omega) len
    have ndl : (((h1.objs.size, HO.lst (Ts.map V.ref)) :: prs Ts xs ys).map (·.1)).Nodup := by
      show (h1.objs.size :: (prs Ts xs ys).map (·.1)).Nodup
      rw [pf]
      exact List.nodup_cons.mpr ⟨fun m => Nat.lt_irrefl _ (fresh _ m), nd⟩
    have hl : ∀ p ∈ ((h1.objs.size, HO.lst (Ts.map V.ref)) :: prs Ts xs ys), s1.heap.objs.size ≤ p.1 ∧ ∀ G, ObjOk X.prog X.w G h' p.1 p.2 := fun p hp => by
      rcases List.mem_cons.mp hp with rfl | hp
      · refine ⟨big, fun G => ⟨by simp; omega, Ts.map Value.ref, c', ?_, ?_⟩⟩
        · exact refs_vals Ts
        · rw [← ea]
          exact g1
      · obtain ⟨i, x, y, e1, e2, e3, e4⟩ := prs_mem hp
        obtain ⟨u, f1, r1⟩ := rv.get e2
        obtain ⟨v, f2, r2⟩ := rw2.get e3
        obtain ⟨pr, lo⟩ := tp i p.1 u v e1 (by rw [← Array.getElem?_toList]; exact f1) (by rw [← Array.getElem?_toList]; exact f2)
        have lo : h1.objs.size + 1 ≤ p.1 := lo
        refine ⟨by omega, fun G => ?_⟩
        rw [e4]
        exact ⟨by show 2 ≤ sizeLine; decide, [u, v], .cons r1 (.cons r2 .nil), ⟨_, pr, rfl, _, rfl⟩⟩
    have fr : ∀ p ∈ ((h1.objs.size, HO.lst (Ts.map V.ref)) :: prs Ts xs ys), H1 p.1 = none := fun p hp => I1.hok.fresh (hl p hp).1
    exact ⟨.ref h1.objs.size, _, I1.un (news_un I1.hok g3 fun p hp => (hl p hp).1) (news_hok I1.hok g3 hl ndl), rfl, q h1.objs.size Ts _ (fun b u e => by
      rw [news_old fun p hp z => by rw [← z, fr p hp] at e; cases e]
      exact e) (I1.hok.fresh big) (news_at ndl List.mem_cons_self) (by omega) fun i T x y e1 e2 e3 => news_at ndl (List.mem_cons_of_mem _ (prs_at e1 e2 e3))⟩
end
end Lz

namespace R0
open PySem PySem.Spec PyProof.Rows L2 Hb St Sq Ow En Zp RZ Rd Xb Da Wa Tn Rg Dc Mr Ec Su Lz
section
variable {P : Program} {w : World} {K : PySem.W.Frag} {mg : Str → Option Value} {base : Heap} {C : Addr}
def manyR (R : RD) : List (Str × Int) := R.rooms.map fun a => (a.1, (a.2.length : Int))
def stOf : PyData → Stp
  | .tuple [.str x, .int i] => (x, i)
  | _ => ("", 0)
def unlB (ms : List (Str × Int)) : PyData → Bool
  | .tuple xs => !xs.isEmpty && (xs.all (stB ms) && decide ((xs.map stOf).Nodup))
  | _ => false
theorem many_keysR (R : RD) : (mnK (manyR R)).map (·.1) = (R.rooms.map (·.1)).map Sum.inr := by
  unfold mnK manyR
  rw [List.map_map, List.map_map, List.map_map]; rfl
theorem many_atR {R : RD} {i : Nat} {k : Key} {z : V} (h : (mnK (manyR R))[i]? = some (k, z)) : ∃ e, R.rooms[i]? = some e ∧ k = Sum.inr e.1 ∧ z = .int (e.2.length : Int) := by
  unfold mnK manyR at h
  rw [List.map_map, List.getElem?_map] at h
  cases c : R.rooms[i]? with
  | none => rw [c] at h; cases h
  | some e =>
    rw [c] at h
    injection h with h
    injection h with h1 h2
    exact ⟨e, rfl, h1.symm, h2.symm⟩
theorem dp_stp {H : Hp} {y : V} {n : Str} {i : Int} (h : Dp K H y (.tuple [.str n, .int i])) : ∃ b, y = .ref b ∧ SqT K H b [.str n, .int i] := by
  cases h with
  | tup ht a =>
    cases a with
    | cons h1 r =>
      cases r with
      | cons h2 r2 =>
        cases r2
        cases h1
        cases h2
        exact ⟨_, rfl, ht⟩
/-- the tuples' keys -/
theorem keys_all {H : Hp} {ms : List (Str × Int)} : ∀ {xs : List V} {ds : List PyData}, All2 (Dp K H) xs ds → ds.all (stB ms) = true → ∃ ks : List (Addr × List Key), xs = ks.map (fun p => V.ref p.1) ∧ (∀ p ∈ ks, SqT K H p.1 (p.2.map kV)) ∧ ks.map (·.2) = (ds.map stOf).map stK
  | _, _, .nil, _ => ⟨[], rfl, nofun, rfl⟩
  | _, _, .cons (a := y) (b := d) h t, ha => by
    rw [List.all_cons, Bool.and_eq_true] at ha
    obtain ⟨ks, e1, e2, e3⟩ := keys_all t ha.2
    obtain ⟨x, i, n, rfl, _⟩ := st_shape ha.1
    obtain ⟨b, rfl, hb⟩ := dp_stp h
    refine ⟨(b, stK (x, i)) :: ks, by rw [e1]; rfl, fun p hp => ?_, ?_⟩
    · rcases List.mem_cons.mp hp with rfl | hp
      · exact hb
      · exact e2 p hp
    · rw [List.map_cons, e3]; rfl
theorem nodup_stK {l : List Stp} : (l.map stK).Nodup ↔ l.Nodup := by
  induction l with
  | nil => simp
  | cons a r ih =>
    rw [List.map_cons, List.nodup_cons, List.nodup_cons, ih]
    refine and_congr_left fun _ => not_congr ⟨fun h => ?_, fun h => List.mem_map.mpr ⟨a, h, rfl⟩⟩
    obtain ⟨b, hb, e⟩ := List.mem_map.mp h
    exact stK_inj e ▸ hb
abbrev s_is_unlike_steps : Stmt := top 34
theorem sc_is_unlike_steps : FnScope ["rooms", "value", "many", "name", "tale", "step"] ["rooms", "value"] (defScope s_is_unlike_steps) := ⟨rfl, rfl, rfl, by decide +kernel, rfl, by decide +kernel, by decide +kernel⟩
def spUnl (K : PySem.W.Frag) (C : Addr) : Sp := fun vs H Q _ => ∃ (m : Addr) (v : V) (R : RD) (d : PyData), vs = [.ref m, v] ∧ RoomsAt K C H m R ∧ RNm R ∧ R.rooms.length ≤ 10 ∧ (R.rooms.map (·.1)).Nodup ∧ Dp K H v d ∧ (itemsD d).length < 64 ∧ (∀ x ∈ itemsD d, SmS x) ∧ ∀ H', Same H H' → Q (.bl (unlB (manyR R) d)) H'
theorem ok_unl {f : Addr} {fd : FuncData} (F : Fun K "is_unlike_steps" "is_unlike_steps" s_is_unlike_steps f fd) (TC : RmT K C) (C_is_step : Cl P w K mg base "is_step" ["many", "value"] [] 3 (spStep K)) (n_all : mg "all" = none) (n_isinstance : mg "isinstance" = none) (n_len : mg "len" = none) (n_set : mg "set" = none) (n_tuple : mg "tuple" = none) : FnOk P w K mg base CX0 4 f fd ["rooms", "value"] (spUnl K C) := by
  refine F.ok sc_is_unlike_steps (fun vs H Q E h => ?_) (fun cdv A outer s H vs Q E hr h => ?_)
  · obtain ⟨_, _, _, _, rfl, _⟩ := h
    rfl
  · obtain ⟨m, v, R, d, rfl, rm, nR, k1, nd, dv, sd, ss, q⟩ := h
    refine ⟨_, (Evl.pss_cut (ps_if (PW.pt (pw_or (pt_not (pt_val (pe_callB call_isi (by rfl) n_isinstance (by decide +kernel) (pa_cons (pv 1) (pa_cons (pe_bltn (v := .ty "tuple") (by rfl) n_tuple (by decide +kernel) rfl) pa_nil))))) (pw_or1 (pt_cmpR op_eq (pe_callB call_len_seq (by rfl) n_len PySem.boot_len (pa_cons (pv 1) pa_nil)) pe_int (nomark _))))) (pss_one (ps_ret pe_bl)) pss_nil)
    (pss_cons (ps_set (i := 2) sc_is_unlike_steps.nd rfl (Or.inr rfl) (pe_dc (own := [("name", 3), ("tale", 4)]) (g := gTup K 2 (gCons (gName 3) (gCons (gName 4) gNil))) rfl sc_is_unlike_steps.nd (pi_seq (pe_fld (pv 0) rfl)) (blkOk_by (N := ["rooms", "value", "many", "name", "tale", "step"]) (sc := defScope s_is_unlike_steps) (by decide +kernel)) (fun _ _ _ _ _ => pg_tup rfl (pgs_cons (pg_name (i := 3) sc_is_unlike_steps.nd rfl (Or.inl rfl)) (pgs_cons (pg_name (i := 4) sc_is_unlike_steps.nd rfl (Or.inl rfl)) pgs_nil))) (fun _ _ _ _ _ => pts_nil) (fun _ _ _ _ _ => pv 3) (fun _ _ _ _ _ => pe_callB (id := "len") (r := rLenK K) call_len_seq (by rfl) n_len PySem.boot_len (pa_cons (pv 4) pa_nil))))
    (pss_one (ps_ret (pe_and (pe_callB (cr_all rfl) (by rfl) n_all (by decide +kernel) (pa_cons (pe_lc (own := [("step", 5)]) (g := gName 5) rfl sc_is_unlike_steps.nd (pi_seq (pv 1)) (blkOk_by (N := ["rooms", "value", "many", "name", "tale", "step"]) (sc := defScope s_is_unlike_steps) (by decide +kernel)) (fun _ _ _ _ _ => pg_name (i := 5) sc_is_unlike_steps.nd rfl (Or.inl rfl)) (fun _ _ _ _ _ => pts_nil) (fun _ _ _ _ _ => pe_use C_is_step (hr.mono (by decide)) rfl (pa_cons (pv 2) (pa_cons (pv 5) pa_nil)))) pa_nil)) (pe_one (pe_cmpR op_eq (pe_lenSetK (Nat.lt_of_le_of_lt (Nat.add_le_add_left (by decide : 9 ≤ 64) _) hr.units) rfl (by rfl) n_len (by rfl) n_set (pv 1)) (pe_callB call_len_seq (by rfl) n_len PySem.boot_len (pa_cons (pv 1) pa_nil)) (nomark _)))))))), ?_⟩
    have ty := ty_dp dv
    have kt := kit_tup dv
    cases dv with
    | @tup a xs ds ht ha =>
      have al := dpa_all ha
      have ll := al.len
      have sd : ds.length < 64 := sd
      refine ⟨fun σ H' => σ = [some (.ref m), some (.ref a), none, none, none, none] ∧ H' = H ∧ ds.isEmpty = false, ?_, ?_⟩
      · refine ⟨_, rfl, _, .ty "tuple", _, _, _, rfl, .ty "tuple", ty, kt, true, rfl, iteF ⟨_, rfl, a, _, rfl, .inr ht, rfl, _, rfl, ?_⟩⟩
        cases ds with
        | nil =>
          have q := q _ (Same.refl _)
          cases al
          exact iteT q
        | cons d0 dr =>
          cases al with
          | cons h1 r1 =>
            refine iteF ⟨rfl, rfl, rfl⟩
      rintro σ H' ⟨rfl, rfl, ne⟩
      obtain ⟨dx, r1, r2, r3, hm, e1, e2, e3⟩ := rm
      obtain ⟨b, rs, eb, hb, alr⟩ := dp_seq e1
      cases eb
      refine ⟨_, rfl, m, C, dx, _, _, rfl, hm, TC.cl, TC.nR, rfl, _, rs, rfl, .inr hb, fun J S W z0 D hD => ?_⟩
      refine dc_wk W (mnK (manyR R)) z0 hD (by unfold mnK manyR; rw [List.length_map, List.length_map]; exact alr.len) (fun i y k z H2 ey ek mm => ?_) (fun H2 s2 eD => ?_)
      · obtain ⟨e, ee, rfl, rfl⟩ := many_atR ek
        obtain ⟨r, er, hr'⟩ := alr.get ey
        rw [ee] at er
        cases er
        obtain ⟨c, vt, rfl, hc, dt⟩ := dp_rm (dp_same mm.1 hr')
        obtain ⟨tb, ts, rfl, htb, tl⟩ := dp_seq dt
        refine ⟨c, _, rfl, hc, rfl, _, _, rfl, _, _, rfl, rfl, rfl, _, rfl, _, rfl, tb, _, rfl, .inr htb, ?_⟩
        rw [tl.len]
        exact dcw_yes mm hD (by rw [many_keysR]; exact nd_inr nd) ek (by unfold mnK manyR; rw [List.length_map, List.length_map]; omega) (Same.refl _)
      · have tz := fun H3 (s3 : Same H' H3) => q H3 s3
        have sq2 : ∀ H3, Same H2 H3 → SqT K H3 a xs := fun H3 s3 => tupFix (Fix.of (s2.trans s3)) ht
        refine ⟨_, rfl, a, xs, rfl, .inr (sq2 _ (Same.refl _)), fun J2 S2 W2 z2 D2 hD2 => ?_⟩
        refine lc_mf (ds := ds) W2 (fun _ => true) (fun _ y e => y = .bl (stB (manyR R) e)) z2 hD2 ll (fun i x e H3 ex ee s3 mf => ?_) (fun H3 ys s3 eY al2 => ?_)
        · exact ⟨rfl, _, rfl, _, rfl, D, manyR R, x, e, rfl, s3 _ _ eD, dp_same (s2.trans s3) (at2 al ex ee), ss e (at_mem ee), mf_yes mf hD2 (fun _ _ _ _ _ h => h) ee (by omega) (Same.refl _) rfl rfl⟩
        · rw [Rd.filter_all] at al2
          have ey := bl_map al2
          refine ⟨D2, _, rfl, SqL.of (by rw [← ey]; exact eY), ?_⟩
          rw [all_map]
          have qq := tz H3 (s2.trans s3)
          have eu : unlB (manyR R) (.tuple ds) = (!ds.isEmpty && (ds.all (stB (manyR R)) && decide ((ds.map stOf).Nodup))) := rfl
          rw [eu, ne] at qq
          cases c : ds.all (stB (manyR R)) with
          | false =>
            rw [c] at qq
            exact ⟨_, rfl, iteF qq⟩
          | true =>
            rw [c] at qq
            obtain ⟨ks, k1', k2', k3'⟩ := keys_all al c
            refine ⟨_, rfl, iteT ⟨_, rfl, a, ks, rfl, .inr (k1' ▸ sq2 _ s3), fun p hp => tupFix (Fix.of (s2.trans s3)) (k2' p hp), by rw [← List.length_map (f := fun p : Addr × List Key => V.ref p.1), ← k1']; omega, fun n hn hc => ⟨_, rfl, a, xs, rfl, .inr (sq2 _ s3), ?_⟩⟩⟩
            have e : decide (V.int (n : Nat) = V.int (xs.length : Nat)) = decide ((ds.map stOf).Nodup) := by
              have kl : ks.length = xs.length := by rw [k1', List.length_map]
              rw [k3', nodup_stK, kl] at hc
              by_cases c2 : (ds.map stOf).Nodup
              · rw [decide_eq_true c2, decide_eq_true (by rw [hc.mpr c2])]
              · rw [decide_eq_false c2, decide_eq_false (fun z => c2 (hc.mp (by injection z with z; omega)))]
            rw [show (!false && (true && decide ((ds.map stOf).Nodup))) = decide ((ds.map stOf).Nodup) from rfl, ← e] at qq
            exact ⟨rfl, qq⟩
    | _ => exact ⟨fun _ _ => False, ⟨_, rfl, _, .ty "tuple", _, _, _, rfl, .ty "tuple", ty, kt, _, rfl, iteT (q _ (Same.refl _))⟩, fun _ _ h => h.elim⟩
end
end R0

namespace R0
open PySem PySem.Spec PyProof.Rows L2 Hb St Sq Ow En Zp RZ Rd Xb Da Wa Tn Rg Dc Mr Ec Su Lz
section
variable {P : Program} {w : World} {K : PySem.W.Frag} {mg : Str → Option Value} {base : Heap} {C : Addr}
/-- each step with the next, the last with the first -/
def nxt (l : List Stp) : List (Stp × Stp) := l.zip (l.drop 1 ++ l.take 1)
def circB (R : RD) (d : PyData) : Bool := unlB (manyR R) d && ((nxt ((itemsD d).map stOf)).all (fun p => leadB R p.1 p.2) && (nxt ((itemsD d).map stOf)).any (fun p => aheadB R p.1 p.2))
theorem turn_te {σ : L2.St} {i : Nat} {H : Hp} {a : Addr} {xs : List V} {Q : VK} (hi : σ[i]? = some (some (.ref a))) (ht : SqT K H a xs) (hn : xs ≠ []) (hl : xs.length ≤ 1000) (q : ∀ b H', Same H H' → SqT K H' b (xs.drop 1 ++ xs.take 1) → Q (.ref b) H') :
    tOp (rCatA K) (tSl (rSlA K) (tVar i) (tPart (tC (.int 1))) tNoPart) (tSl (rSlA K) (tVar i) tNoPart (tPart (tC (.int 1)))) σ H Q := by
  cases xs with
  | nil => exact (hn rfl).elim
  | cons x r =>
    have n1 : ∀ n : Nat, HT.sIx (n + 1) 0 (some 1) = 1 := fun n => by simp [HT.sIx]
    have n2 : ∀ n : Nat, HT.sIx (n + 1) (n + 1) (some 1) = 1 := fun n => by simp [HT.sIx]
    have n3 : ∀ n d : Nat, HT.sIx n d none = d := fun n d => rfl
    refine ⟨_, hi, _, rfl, a, _, rfl, ht, fun z => ?_, fun _ p hp => ?_⟩
    · rw [List.length_cons, n1] at z
      cases z.1
    have s1 := same_new hp (.tup (cutV (x :: r) (some 1) none))
    have c1 : cutV (x :: r) (some 1) none = r := by
      unfold cutV
      rw [List.length_cons, n1, n3]
      simp
    have c2 : cutV (x :: r) none (some 1) = [x] := by
      unfold cutV
      rw [List.length_cons, n2, n3]
      simp
    rw [c1] at s1 ⊢
    have e1 : SqT K (upd H p (.tup r)) p r := SqT.of upd_same
    have t1 := tupFix (Fix.of s1) ht
    have fin : ∀ b H3, Same (upd H p (.tup r)) H3 → SqT K H3 b [x] → rCatA K (.ref p) (.ref b) H3 Q := fun b H3 s3 hb => by
      have l0 : r.length + 1 ≤ 1000 := hl
      refine ⟨p, b, r, [x], rfl, rfl, tupFix (Fix.of s3) e1, hb, by rw [sizeLine_eq]; simp; omega, fun e => ?_, (fun _ e => nomatch e), fun _ _ u hu => ?_⟩
      · subst e
        exact q b H3 (s1.trans s3) hb
      · exact q u _ ((s1.trans s3).trans (same_new hu _)) (SqT.of upd_same)
    refine ⟨_, hi, _, rfl, a, _, rfl, t1, fun z => ?_, fun _ u hu => ?_⟩
    · rw [List.length_cons, n2] at z
      have : r = [] := List.length_eq_zero_iff.mp (by omega)
      subst this
      exact fin a _ (Same.refl _) t1
    · rw [c2]
      exact fin u _ (same_new hu _) (SqT.of upd_same)
theorem unl_st {R : RD} (nR : RNm R) {d : PyData} (h : stB (manyR R) d = true) : d = stD (stOf d) ∧ IsNm (stOf d).1 := by
  obtain ⟨x, i, n, rfl, e, _⟩ := st_shape h
  refine ⟨rfl, ?_⟩
  show IsNm x
  have : (x, n) ∈ manyR R := by
    clear h
    revert e
    generalize manyR R = l
    intro e
    induction l with
    | nil => cases e
    | cons a r ih =>
      obtain ⟨y, k⟩ := a
      rw [List.lookup_cons] at e
      by_cases c : x == y
      · rw [c] at e
        cases e
        rw [eq_of_beq c]
        exact List.mem_cons_self
      · rw [show (x == y) = false from by simpa using c] at e
        exact List.mem_cons_of_mem _ (ih e)
  obtain ⟨r, hr, e2⟩ := List.mem_map.mp this
  cases e2
  exact (nR.r r hr).1
theorem sts_of {R : RD} {H : Hp} (nR : RNm R) : ∀ {xs : List V} {ds : List PyData}, All2 (Dp K H) xs ds → ds.all (stB (manyR R)) = true → All2 (fun v s => Dp K H v (stD s) ∧ IsNm s.1) xs (ds.map stOf)
  | _, _, .nil, _ => .nil
  | _, _, .cons h t, sts => by
    rw [List.all_cons, Bool.and_eq_true] at sts
    obtain ⟨e1, e2⟩ := unl_st nR sts.1
    exact .cons ⟨e1 ▸ h, e2⟩ (sts_of nR t sts.2)
theorem any_map {α : Type} (f : α → Bool) (l : List α) : (l.map f).any id = l.any f := by rw [List.any_map]; rfl
def PrT (K : PySem.W.Frag) (H : Hp) (v : V) (p : Stp × Stp) : Prop := ∃ T x y, v = .ref T ∧ SqT K H T [x, y] ∧ (Dp K H x (stD p.1) ∧ IsNm p.1.1) ∧ (Dp K H y (stD p.2) ∧ IsNm p.2.1)
theorem PrT.same {H H' : Hp} {v : V} {p : Stp × Stp} (h : PrT K H v p) (s : Same H H') : PrT K H' v p := let ⟨T, x, y, e, t, a, b⟩ := h; ⟨T, x, y, e, tupFix (Fix.of s) t, ⟨dp_same s a.1, a.2⟩, ⟨dp_same s b.1, b.2⟩⟩
theorem prs_all {H : Hp} {R : V → Stp → Prop} (hR : ∀ v s, R v s → Dp K H v (stD s) ∧ IsNm s.1) : ∀ {xs ys : List V} {sl tl : List Stp} {Ts : List Addr}, All2 R xs sl → All2 R ys tl → Ts.length = xs.length → xs.length = ys.length → (∀ (i : Nat) T x y, Ts[i]? = some T → xs[i]? = some x → ys[i]? = some y → H T = some (.tup [x, y])) → All2 (PrT K H) (Ts.map V.ref) (sl.zip tl)
  | _, _, _, _, [], .nil, .nil, _, _, _ => .nil
  | _, _, _, _, T :: Ts, .cons h t, .cons h' t', l1, l2, g => .cons ⟨T, _, _, rfl, SqT.of (g 0 T _ _ rfl rfl rfl), hR _ _ h, hR _ _ h'⟩ (prs_all hR t t' (by simpa using l1) (by simpa using l2) fun i T x y a b c => g (i + 1) T x y a b c)
  | _, _, _, _, _, .cons _ _, .nil, _, l2, _ => by simp at l2
  | _, _, _, _, _, .nil, .cons _ _, _, l2, _ => by simp at l2
  | _, _, _, _, _ :: _, .nil, .nil, l1, _, _ => by simp at l1
  | _, _, _, _, [], .cons _ _, _, l1, _, _ => by simp at l1
theorem all2_turn {α β : Type} {R : α → β → Prop} {xs : List α} {l : List β} (h : All2 R xs l) : All2 R (xs.drop 1 ++ xs.take 1) (l.drop 1 ++ l.take 1) := by
  cases h with
  | nil => exact .nil
  | cons h t => simpa using t.app (.cons h .nil)
abbrev s_is_circle : Stmt := top 33
theorem sc_is_circle : FnScope ["rooms", "value", "pairs", "one", "other"] ["rooms", "value"] (defScope s_is_circle) := ⟨rfl, rfl, rfl, by decide +kernel, rfl, by decide +kernel, by decide +kernel⟩
def spIsC (K : PySem.W.Frag) (C : Addr) : Sp := fun vs H Q _ => ∃ (m : Addr) (v : V) (R : RD) (d : PyData), vs = [.ref m, v] ∧ RoomsAt K C H m R ∧ RNm R ∧ R.rooms.length ≤ 10 ∧ (R.rooms.map (·.1)).Nodup ∧ Dp K H v d ∧ (itemsD d).length < 64 ∧ (∀ x ∈ itemsD d, SmS x) ∧ ∀ H', Same H H' → Q (.bl (circB R d)) H'
theorem ok_isc {f : Addr} {fd : FuncData} (F : Fun K "is_circle" "is_circle" s_is_circle f fd) (C_is_ahead : Cl P w K mg base "is_ahead" ["rooms", "one", "other"] [] 1 (spAhead K C)) (C_is_leading : Cl P w K mg base "is_leading" ["rooms", "one", "other"] [] 2 (spLead K C)) (C_is_unlike_steps : Cl P w K mg base "is_unlike_steps" ["rooms", "value"] [] 4 (spUnl K C)) (n_all : mg "all" = none) (n_any : mg "any" = none) (n_list : mg "list" = none) (n_zip : mg "zip" = none) : FnOk P w K mg base CX0 5 f fd ["rooms", "value"] (spIsC K C) := by
  refine F.ok sc_is_circle (fun vs H Q E h => ?_) (fun cdv A outer s H vs Q E hr h => ?_)
  · obtain ⟨_, _, _, _, rfl, _⟩ := h
    rfl
  · obtain ⟨m, v, R, d, rfl, rm, nR, k1, nd, dv, sd, ss, q⟩ := h
    refine ⟨_, (Evl.pss_cut (ps_if (pt_not (pt_val (pe_use C_is_unlike_steps (hr.mono (by decide)) rfl (pa_cons (pv 0) (pa_cons (pv 1) pa_nil))))) (pss_one (ps_ret pe_bl)) pss_nil)
    (pss_cons (ps_set (i := 2) sc_is_circle.nd rfl (Or.inl rfl) (pe_listZip rfl (by rfl) n_list (by rfl) n_zip (pa_cons (pv 1) (pa_cons (pe_op op_catA (pe_slice (r := rSlA K) sl_tupA (pv 1) (po_some pe_int) po_none) (pe_slice (r := rSlA K) sl_tupA (pv 1) po_none (po_some pe_int))) pa_nil))))
    (Evl.pss_cut (ps_if (pt_not (pt_val (pe_callB (cr_all rfl) (by rfl) n_all (by decide +kernel) (pa_cons (pe_lc (own := [("one", 3), ("other", 4)]) (g := gTup K 2 (gCons (gName 3) (gCons (gName 4) gNil))) rfl sc_is_circle.nd (pi_seq (pv 2)) (blkOk_by (N := ["rooms", "value", "pairs", "one", "other"]) (sc := defScope s_is_circle) (by decide +kernel)) (fun _ _ _ _ _ => pg_tup rfl (pgs_cons (pg_name (i := 3) sc_is_circle.nd rfl (Or.inl rfl)) (pgs_cons (pg_name (i := 4) sc_is_circle.nd rfl (Or.inl rfl)) pgs_nil))) (fun _ _ _ _ _ => pts_nil) (fun _ _ _ _ _ => pe_use C_is_leading (hr.mono (by decide)) rfl (pa_cons (pv 0) (pa_cons (pv 3) (pa_cons (pv 4) pa_nil))))) pa_nil)))) (pss_one (ps_ret pe_bl)) pss_nil)
    (pss_one (ps_ret (pe_callB (cr_any rfl) (by rfl) n_any (by decide +kernel) (pa_cons (pe_lc (own := [("one", 3), ("other", 4)]) (g := gTup K 2 (gCons (gName 3) (gCons (gName 4) gNil))) rfl sc_is_circle.nd (pi_seq (pv 2)) (blkOk_by (N := ["rooms", "value", "pairs", "one", "other"]) (sc := defScope s_is_circle) (by decide +kernel)) (fun _ _ _ _ _ => pg_tup rfl (pgs_cons (pg_name (i := 3) sc_is_circle.nd rfl (Or.inl rfl)) (pgs_cons (pg_name (i := 4) sc_is_circle.nd rfl (Or.inl rfl)) pgs_nil))) (fun _ _ _ _ _ => pts_nil) (fun _ _ _ _ _ => pe_use C_is_ahead (hr.mono (by decide)) rfl (pa_cons (pv 0) (pa_cons (pv 3) (pa_cons (pv 4) pa_nil))))) pa_nil))))))), ?_⟩
    refine ⟨fun σ H' => σ = [some (.ref m), some v, none, none, none] ∧ Same H H' ∧ unlB (manyR R) d = true, ?_, ?_⟩
    · refine ⟨_, rfl, _, rfl, m, v, R, d, rfl, rm, nR, k1, nd, dv, sd, ss, fun H1 s1 => ⟨_, rfl, ?_⟩⟩
      cases c : unlB (manyR R) d with
      | true => exact iteF ⟨rfl, s1, rfl⟩
      | false =>
        have q := q H1 s1
        unfold circB at q
        rw [c] at q
        exact iteT q
    rintro σ H1 ⟨rfl, s1, un⟩
    have q : ∀ H', Same H H' → Q (.bl ((nxt ((itemsD d).map stOf)).all (fun p => leadB R p.1 p.2) && (nxt ((itemsD d).map stOf)).any (fun p => aheadB R p.1 p.2))) H' := fun H' s => by
      have q := q H' s
      unfold circB at q
      rw [un] at q
      exact q
    have dv := dp_same s1 dv
    cases d with
    | tuple ds => ?_
    | _ => cases un
    cases dv with
    | @tup a xs _ ht ha =>
    have al := dpa_all ha
    have ll := al.len
    have sd : ds.length < 64 := sd
    unfold unlB at un
    simp only [Bool.and_eq_true] at un
    obtain ⟨ne, sts, -⟩ := un
    have nz : xs ≠ [] := fun z => by
      subst z
      cases al
      cases ne
    have ms := sts_of nR al sts
    refine ⟨_, rfl, turn_te rfl ht nz (by omega) fun b H2 s2 hb => ⟨a, b, xs, xs.drop 1 ++ xs.take 1, rfl, tupFix (Fix.of s2) ht, hb, by simp; omega, fun l Ts H3 s3 hl0 hl lT pt => ?_⟩⟩
    have s13 := s2.trans s3
    have ms3 : All2 (fun v s => Dp K H3 v (stD s) ∧ IsNm s.1) xs (ds.map stOf) := ms.imp fun _ _ r => ⟨dp_same s13 r.1, r.2⟩
    have pr : All2 (PrT K H3) (Ts.map V.ref) (nxt (ds.map stOf)) := prs_all (fun _ _ h => h) ms3 (all2_turn ms3) lT (by simp; omega) pt
    have lp := pr.len
    have lq : (nxt (ds.map stOf)).length ≤ 64 := by rw [← lp, List.length_map]; omega
    have s03 := s1.trans s13
    refine ⟨fun σ H' => σ = [some (.ref m), some (.ref a), some (.ref l), none, none] ∧ Same H3 H' ∧ (nxt (ds.map stOf)).all (fun p => leadB R p.1 p.2) = true, ?_, ?_⟩
    · refine ⟨_, rfl, l, Ts.map V.ref, rfl, SqX.lst hl, fun J S W z0 D hD => ?_⟩
      refine lc_mf (ds := nxt (ds.map stOf)) W (fun _ => true) (fun _ y p => y = .bl (leadB R p.1 p.2)) z0 hD lp (fun i x p H4 ex ep s4 mf => ?_) (fun H4 ys s4 eY al2 => ?_)
      · obtain ⟨p', ep', hp⟩ := pr.get ex
        obtain rfl := Option.some.inj (ep'.symm.trans ep)
        obtain ⟨T, u, v, rfl, hT, hu, hv⟩ := hp.same s4
        refine ⟨T, _, rfl, hT, rfl, _, _, rfl, _, _, rfl, rfl, rfl, _, rfl, _, rfl, _, rfl, m, u, v, p'.1, p'.2, R, rfl, (rm.same s03).same s4, nR, hu.1, hv.1, hu.2, hv.2, fun H5 s5 => ?_⟩
        exact mf_yes mf hD (fun _ _ _ _ _ h => h) ep (by omega) s5 rfl rfl
      · rw [Rd.filter_all] at al2
        have ey := bl_map al2
        refine ⟨D, _, rfl, SqL.of (by rw [← ey]; exact eY), _, rfl, ?_⟩
        rw [all_map]
        cases c : (nxt (ds.map stOf)).all (fun p => leadB R p.1 p.2) with
        | true => exact iteF ⟨rfl, s4, rfl⟩
        | false =>
          have q := q H4 (s03.trans s4)
          rw [show itemsD (.tuple ds) = ds from rfl, c] at q
          exact iteT q
    rintro σ H4 ⟨rfl, s4, c⟩
    have s04 := s03.trans s4
    refine ⟨_, rfl, l, Ts.map V.ref, rfl, SqX.lst (s4 _ _ hl), fun J S W z0 D hD => ?_⟩
    refine lc_mf (ds := nxt (ds.map stOf)) W (fun _ => true) (fun _ y p => y = .bl (aheadB R p.1 p.2)) z0 hD lp (fun i x p H5 ex ep s5 mf => ?_) (fun H5 ys s5 eY al2 => ?_)
    · obtain ⟨p', ep', hp⟩ := pr.get ex
      obtain rfl := Option.some.inj (ep'.symm.trans ep)
      obtain ⟨T, u, v, rfl, hT, hu, hv⟩ := hp.same (s4.trans s5)
      refine ⟨T, _, rfl, hT, rfl, _, _, rfl, _, _, rfl, rfl, rfl, _, rfl, _, rfl, _, rfl, m, u, v, p'.1, p'.2, R, rfl, (rm.same s04).same s5, nR, hu.1, hv.1, hu.2, hv.2, fun H6 s6 => ?_⟩
      exact mf_yes mf hD (fun _ _ _ _ _ h => h) ep (by omega) s6 rfl rfl
    · rw [Rd.filter_all] at al2
      have ey := bl_map al2
      refine ⟨D, _, rfl, SqL.of (by rw [← ey]; exact eY), ?_⟩
      rw [any_map]
      have q := q H5 (s04.trans s5)
      rw [show itemsD (.tuple ds) = ds from rfl, c] at q
      exact q
end
end R0

namespace R0
open PySem PySem.Spec PyProof.Rows L2 Hb St Sq Ow En Zp RZ Rd Xb Da Wa Tn Rg Dc Mr Ec Su Lz
section
variable {P : Program} {w : World} {K : PySem.W.Frag} {mg : Str → Option Value} {base : Heap} {C : Addr}
/-- how one leads to the other: 2 ahead, 1 alike, 0 not at all -/
def wayI (G Ca : List Jn) (a b : Stp) : Int := if a.1 = b.1 then (if a.2 < b.2 then 2 else 0) else if (a, b) ∈ Ca then 2 else if (a, b) ∈ G ∨ (b, a) ∈ G then 1 else 0
abbrev s__law_leads : Stmt := top 47
theorem sc__law_leads : FnScope ["rooms", "gongs", "calls", "one", "other"] ["rooms", "gongs", "calls", "one", "other"] (defScope s__law_leads) := ⟨rfl, rfl, rfl, by decide +kernel, rfl, by decide +kernel, by decide +kernel⟩
def spLLeads (K : PySem.W.Frag) : Sp := fun vs H Q _ => ∃ (r g c : Addr) (v1 v2 : V) (a b : Stp) (G Ca : List Jn), vs = [.ref r, .ref g, .ref c, v1, v2] ∧ ListAt K H g jnD G ∧ ListAt K H c jnD Ca ∧ (∀ j ∈ G, NmJ j) ∧ (∀ j ∈ Ca, NmJ j) ∧ Dp K H v1 (stD a) ∧ Dp K H v2 (stD b) ∧ IsNm a.1 ∧ IsNm b.1 ∧ ∀ H', Same H H' → Q (.int (wayI G Ca a b)) H'
theorem ok_lleads {f : Addr} {fd : FuncData} (F : Fun K "_law_leads" "_law_leads" s__law_leads f fd)  : FnOk P w K mg base CX0 1 f fd ["rooms", "gongs", "calls", "one", "other"] (spLLeads K) := by
  refine F.ok sc__law_leads (fun vs H Q E h => ?_) (fun cdv A outer s H vs Q E hr h => ?_)
  · obtain ⟨_, _, _, _, _, _, _, _, _, rfl, _⟩ := h
    rfl
  · obtain ⟨r, g, c, v1, v2, a, b, G, Ca, rfl, lg, lc, nG, nC, h1, h2, n1, n2, q⟩ := h
    refine ⟨_, (Evl.pss_cut (ps_if (pt_cmpR op_eq (pe_ix ix_tup (pv 3) pe_int (fun _ _ => rfl)) (pe_ix ix_tup (pv 4) pe_int (fun _ _ => rfl)) (nomark _)) (pss_one (ps_ret (pe_ifExp (pt_cmpR op_lt (pe_ix ix_tup (pv 3) pe_int (fun _ _ => rfl)) (pe_ix ix_tup (pv 4) pe_int (fun _ _ => rfl)) (nomark _)) pe_int pe_int))) pss_nil)
    (Evl.pss_cut (ps_if (pt_cmpR (op_inD hr.units65) (pe_tup (pa_cons (pv 3) (pa_cons (pv 4) pa_nil))) (pv 2) rfl) (pss_one (ps_ret pe_int)) pss_nil)
    (pss_one (ps_ret (pe_ifExp (PW.pt (pw_or (pt_cmpR (op_inD hr.units65) (pe_tup (pa_cons (pv 3) (pa_cons (pv 4) pa_nil))) (pv 1) rfl) (pw_or1 (pt_cmpR (op_inD hr.units65) (pe_tup (pa_cons (pv 4) (pa_cons (pv 3) pa_nil))) (pv 1) rfl)))) pe_int pe_int))))), ?_⟩
    obtain ⟨p1, rfl, t1⟩ := dp_st h1
    obtain ⟨p2, rfl, t2⟩ := dp_st h2
    have w0 : wayI G Ca a b = if a.1 = b.1 then (if a.2 < b.2 then 2 else 0) else if (a, b) ∈ Ca then 2 else if (a, b) ∈ G ∨ (b, a) ∈ G then 1 else 0 := rfl
    refine ⟨fun σ H' => σ = [some (.ref r), some (.ref g), some (.ref c), some (.ref p1), some (.ref p2)] ∧ H' = H ∧ ¬ a.1 = b.1, ?_, ?_⟩
    · refine ⟨_, rfl, p1, _, 0, _, rfl, rfl, t1, at0, _, rfl, p2, _, 0, _, rfl, rfl, t2, at0, rfl, _, rfl, ?_⟩
      rw [eqStr]
      by_cases c1 : a.1 = b.1
      · rw [decide_eq_true c1]
        rw [if_pos c1] at w0
        refine iteT ⟨_, rfl, p1, _, 1, _, rfl, rfl, t1, at1, _, rfl, p2, _, 1, _, rfl, rfl, t2, at1, _, _, rfl, rfl, _, rfl, ?_⟩
        by_cases c2 : a.2 < b.2
        · rw [decide_eq_true c2]
          rw [if_pos c2] at w0
          exact iteT (w0 ▸ q H (Same.refl H))
        · rw [decide_eq_false c2]
          rw [if_neg c2] at w0
          exact iteF (w0 ▸ q H (Same.refl H))
      · rw [decide_eq_false c1]
        exact iteF ⟨rfl, rfl, c1⟩
    rintro σ H' ⟨rfl, rfl, c1⟩
    rw [if_neg c1] at w0
    refine ⟨fun σ H1 => σ = [some (.ref r), some (.ref g), some (.ref c), some (.ref p1), some (.ref p2)] ∧ Same H' H1 ∧ ¬ (a, b) ∈ Ca, ?_, ?_⟩
    · refine ⟨_, rfl, _, rfl, by show 2 ≤ sizeLine; decide, fun t ht => ?_⟩
      have s1 := same_new ht (.tup [V.ref p1, .ref p2])
      have et : upd H' t (.tup [V.ref p1, .ref p2]) t = _ := upd_same
      refine ⟨_, rfl, jnD (a, b), Ca.map jnD, .tup (SqT.of et) (.cons (dp_same s1 h1) (.cons (dp_same s1 h2) .nil)), (lc.same s1).dp, pair_shaped n1 n2, (sh_jns nC).ok (by decide), _, rfl, ?_⟩
      rw [any_jn]
      by_cases c2 : (a, b) ∈ Ca
      · rw [decide_eq_true c2]
        rw [if_pos c2] at w0
        exact iteT (w0 ▸ q _ s1)
      · rw [decide_eq_false c2]
        exact iteF ⟨rfl, s1, c2⟩
    rintro σ H1 ⟨rfl, s1, c2⟩
    rw [if_neg c2] at w0
    refine ⟨_, rfl, _, rfl, by show 2 ≤ sizeLine; decide, fun t3 ht3 => ?_⟩
    have s3 := s1.trans (same_new ht3 (.tup [V.ref p1, .ref p2]))
    have et3 : upd H1 t3 (.tup [V.ref p1, .ref p2]) t3 = _ := upd_same
    refine ⟨_, rfl, jnD (a, b), G.map jnD, .tup (SqT.of et3) (.cons (dp_same s3 h1) (.cons (dp_same s3 h2) .nil)), (lg.same s3).dp, pair_shaped n1 n2, (sh_jns nG).ok (by decide), _, rfl, ?_⟩
    rw [any_jn]
    by_cases c3 : (a, b) ∈ G
    · rw [decide_eq_true c3]
      rw [if_pos (.inl c3)] at w0
      exact iteT (w0 ▸ q _ s3)
    · rw [decide_eq_false c3]
      refine iteF ⟨_, rfl, _, rfl, by show 2 ≤ sizeLine; decide, fun t4 ht4 => ?_⟩
      have s4 := s3.trans (same_new ht4 (.tup [V.ref p2, .ref p1]))
      have et4 : upd (upd H1 t3 (.tup [V.ref p1, .ref p2])) t4 (.tup [V.ref p2, .ref p1]) t4 = _ := upd_same
      refine ⟨_, rfl, jnD (b, a), G.map jnD, .tup (SqT.of et4) (.cons (dp_same s4 h2) (.cons (dp_same s4 h1) .nil)), (lg.same s4).dp, pair_shaped n2 n1, (sh_jns nG).ok (by decide), _, rfl, ?_⟩
      rw [any_jn]
      by_cases c4 : (b, a) ∈ G
      · rw [decide_eq_true c4]
        rw [if_pos (.inr c4)] at w0
        exact iteT (w0 ▸ q _ s4)
      · rw [decide_eq_false c4]
        rw [if_neg (fun z => z.elim c3 c4)] at w0
        exact iteF (w0 ▸ q _ s4)
end
end R0

namespace R0
open PySem PySem.Spec PyProof.Rows L2 Hb St Sq Ow En Zp RZ Rd Xb Da Wa Tn Rg Dc Mr Ec Su Lz
section
variable {P : Program} {w : World} {K : PySem.W.Frag} {mg : Str → Option Value} {base : Heap} {C : Addr}
def d0 : Stp := ("", 0)
def prvI (l : List Stp) (i : Nat) : Stp := if i = 0 then l.getD (l.length - 1) d0 else l.getD (i - 1) d0
def waysF (G Ca : List Jn) (l : List Stp) : List Int := (List.range l.length).map fun i => wayI G Ca (prvI l i) (l.getD i d0)
def ringB (G Ca : List Jn) (l : List Stp) : Bool := decide l.Nodup && (!((waysF G Ca l).any fun n => n == 0) && (waysF G Ca l).any fun n => n == 2)
/-- the told rooms and joins -/
def ToldAt (K : PySem.W.Frag) (H : Hp) (u : Addr) (rs : List Rm) (G Ca : List Jn) : Prop := ∃ r g c, SqT K H u [.ref r, .ref g, .ref c] ∧ ListAt K H r rmD rs ∧ ListAt K H g jnD G ∧ ListAt K H c jnD Ca
theorem ToldAt.same {H H' : Hp} {u : Addr} {rs : List Rm} {G Ca : List Jn} (h : ToldAt K H u rs G Ca) (s : Same H H') : ToldAt K H' u rs G Ca := let ⟨r, g, c, a, b, d, e⟩ := h; ⟨r, g, c, tupFix (Fix.of s) a, b.same s, d.same s, e.same s⟩
/-- a tuple of steps -/
def StpsAt (K : PySem.W.Frag) (H : Hp) (a : Addr) (l : List Stp) : Prop := ∃ xs, SqT K H a xs ∧ All2 (fun v s => Dp K H v (stD s)) xs l
theorem StpsAt.same {H H' : Hp} {a : Addr} {l : List Stp} (h : StpsAt K H a l) (s : Same H H') : StpsAt K H' a l := let ⟨xs, e, t⟩ := h; ⟨xs, tupFix (Fix.of s) e, t.imp fun _ _ r => dp_same s r⟩
theorem keep_nodup {l : List Stp} : (List.range l.length).filter (fun i => decide (l.getD i d0 ∈ l.take i)) = [] ↔ l.Nodup := by
  rw [List.filter_eq_nil_iff]
  show _ ↔ l.Pairwise (· ≠ ·)
  rw [List.pairwise_iff_getElem]
  constructor
  · intro h i j hi hj hij e
    refine h j (List.mem_range.mpr hj) (decide_eq_true ?_)
    rw [List.getD_eq_getElem?_getD, List.getElem?_eq_getElem hj]
    show l[j] ∈ _
    rw [← e]
    exact List.mem_iff_getElem?.mpr ⟨i, by rw [List.getElem?_take_of_lt hij, List.getElem?_eq_getElem hi]⟩
  · intro h j hj e
    have hj := List.mem_range.mp hj
    have e := of_decide_eq_true e
    rw [List.getD_eq_getElem?_getD, List.getElem?_eq_getElem hj] at e
    obtain ⟨i, ei⟩ := List.mem_iff_getElem?.mp e
    have lt : i < j := by
      have := (List.getElem?_eq_some_iff.mp ei).1
      rw [List.length_take] at this
      omega
    rw [List.getElem?_take_of_lt lt] at ei
    obtain ⟨hi, ee⟩ := List.getElem?_eq_some_iff.mp ei
    exact h i j hi hj lt ee
theorem prv_at {xs : List V} {l : List Stp} {R : V → Stp → Prop} (h : All2 R xs l) {i : Nat} (hi : i < l.length) : ∃ y, atI xs ((i : Int) - 1) = some y ∧ R y (prvI l i) := by
  have ll := h.len
  have get : ∀ j, j < l.length → ∃ y, xs[j]? = some y ∧ R y (l.getD j d0) := fun j hj => by
    have e : xs[j]? = some (xs[j]'(ll ▸ hj)) := List.getElem?_eq_getElem _
    obtain ⟨b, eb, r⟩ := h.get e
    refine ⟨_, e, ?_⟩
    rw [List.getD_eq_getElem?_getD, eb]
    exact r
  unfold atI ixN prvI
  by_cases c : i = 0
  · subst c
    obtain ⟨y, e, r⟩ := get (l.length - 1) (by omega)
    refine ⟨y, ?_, r⟩
    rw [if_neg (by omega), if_pos (by omega)]
    show xs[_]? = _
    rw [← e]
    congr 1
    omega
  · obtain ⟨y, e, r⟩ := get (i - 1) (by omega)
    refine ⟨y, ?_, by rw [if_neg c]; exact r⟩
    rw [if_pos (by omega), if_pos (by omega)]
    show xs[_]? = _
    rw [← e]
    congr 1
    omega
abbrev s__law_is_ring : Stmt := top 48
theorem sc__law_is_ring : FnScope ["told", "value", "rooms", "gongs", "calls", "ways", "at", "step"] ["told", "value"] (defScope s__law_is_ring) := ⟨rfl, rfl, rfl, by decide +kernel, rfl, by decide +kernel, by decide +kernel⟩
def spRing (K : PySem.W.Frag) : Sp := fun vs H Q _ => ∃ (u a : Addr) (rs : List Rm) (G Ca : List Jn) (l : List Stp), vs = [.ref u, .ref a] ∧ ToldAt K H u rs G Ca ∧ (∀ j ∈ G, NmJ j) ∧ (∀ j ∈ Ca, NmJ j) ∧ StpsAt K H a l ∧ (∀ s ∈ l, IsNm s.1) ∧ l.length ≤ 60 ∧ ∀ H', Same H H' → Q (.bl (ringB G Ca l)) H'
theorem ok_ring {f : Addr} {fd : FuncData} (F : Fun K "_law_is_ring" "_law_is_ring" s__law_is_ring f fd) (C__law_leads : Cl P w K mg base "_law_leads" ["rooms", "gongs", "calls", "one", "other"] [] 1 (spLLeads K)) (n_enumerate : mg "enumerate" = none) : FnOk P w K mg base CX0 2 f fd ["told", "value"] (spRing K) := by
  refine F.ok sc__law_is_ring (fun vs H Q E h => ?_) (fun cdv A outer s H vs Q E hr h => ?_)
  · obtain ⟨_, _, _, _, _, _, rfl, _⟩ := h
    rfl
  · obtain ⟨u, a, rs, G, Ca, l, rfl, ⟨r, g, c, tu, lr, lg, lc⟩, nG, nC, ⟨xs, ta, al⟩, nl, ln, q⟩ := h
    refine ⟨_, (pss_cons (ps_asg (pv 0) (pg_tup rfl (pgs_cons (pg_name (i := 2) sc__law_is_ring.nd rfl (Or.inr rfl)) (pgs_cons (pg_name (i := 3) sc__law_is_ring.nd rfl (Or.inr rfl)) (pgs_cons (pg_name (i := 4) sc__law_is_ring.nd rfl (Or.inr rfl)) pgs_nil)))))
    (Evl.pss_cut (ps_if (pt_cmpR (op_neD hr.units) (pe_lc (own := [("at", 6), ("step", 7)]) (g := gTup K 2 (gCons (gName 6) (gCons (gName 7) gNil))) rfl sc__law_is_ring.nd (pi_or (pi_enum (by rfl) n_enumerate (pa_cons (pv 1) pa_nil)) (pi_enumT (by rfl) n_enumerate (pa_cons (pv 1) pa_nil))) (blkOk_by (N := ["told", "value", "rooms", "gongs", "calls", "ways", "at", "step"]) (sc := defScope s__law_is_ring) (by decide +kernel)) (fun _ _ _ _ _ => pg_tup rfl (pgs_cons (pg_name (i := 6) sc__law_is_ring.nd rfl (Or.inl rfl)) (pgs_cons (pg_name (i := 7) sc__law_is_ring.nd rfl (Or.inl rfl)) pgs_nil))) (fun _ _ _ _ _ => pts_one (pt_cmpR (r := rInT K) (op_inT hr.units65) (pv 7) (pe_slice (r := rSlA K) sl_tupA (pv 1) po_none (po_some (pv 6))) rfl)) (fun _ _ _ _ _ => pv 6)) (pe_lst pa_nil) (nomark _)) (pss_one (ps_ret pe_bl)) pss_nil)
    (Evl.pss_cut (ps_setLc (i := 5) (own := [("at", 6), ("step", 7)]) (g := gTup K 2 (gCons (gName 6) (gCons (gName 7) gNil))) (by rfl) sc__law_is_ring.nd rfl rfl (sw_true rfl rfl rfl (by decide +kernel)) (pi_or (pi_enum (by rfl) n_enumerate (pa_cons (pv 1) pa_nil)) (pi_enumT (by rfl) n_enumerate (pa_cons (pv 1) pa_nil))) (blkOk_by (N := ["told", "value", "rooms", "gongs", "calls", "ways", "at", "step"]) (sc := defScope s__law_is_ring) (by decide +kernel)) (fun _ _ _ _ _ => pg_tup rfl (pgs_cons (pg_name (i := 6) sc__law_is_ring.nd rfl (Or.inl rfl)) (pgs_cons (pg_name (i := 7) sc__law_is_ring.nd rfl (Or.inl rfl)) pgs_nil))) (fun _ _ _ _ _ => pts_nil) (fun _ _ _ _ _ => pe_use C__law_leads (hr.mono (by decide)) rfl (pa_cons (pv 2) (pa_cons (pv 3) (pa_cons (pv 4) (pa_cons (pe_ix (r := rIxT K) ix_tup (pv 1) (pe_op op_sub (pv 6) pe_int) (fun _ _ => rfl)) (pa_cons (pv 7) pa_nil)))))))
    (pss_one (ps_ret (pe_and (pe_cmpR op_notIn_seq pe_int (pv 5) rfl) (pe_one (pe_cmpR op_in_seq pe_int (pv 5) rfl)))))))), ?_⟩
    have ll := al.len
    refine ⟨_, rfl, u, _, rfl, tu, rfl, _, _, rfl, _, _, rfl, _, _, rfl, rfl, ?_⟩
    refine ⟨fun σ H' => σ = [some (.ref u), some (.ref a), some (.ref r), some (.ref g), some (.ref c), none, none, none] ∧ Same H H' ∧ l.Nodup, ?_, ?_⟩
    · refine .inr ⟨_, rfl, a, rfl, ⟨xs, ta⟩, fun D hD => ?_⟩
      refine lc_mfe en_tup (fun i => decide (l.getD i d0 ∈ l.take i)) (fun _ y i => y = .int (i : Nat)) (fun H' s => tupFix (Fix.of s) ta) hD (fun i x T H' ex hi ei s1 m hT => ?_) (fun H' ys s1 e al2 => ?_)
      · obtain ⟨st, est, dst⟩ := al.get ex
        have sT := same_new hT (.tup [.int (i : Nat), x])
        have s2 := s1.trans sT
        have egd : l.getD i d0 = st := by rw [List.getD_eq_getElem?_getD, est]; rfl
        have sx : HT.sIx xs.length xs.length (some (i : Int)) = i := by rw [HT.sIx_nat]; omega
        refine ⟨T, _, rfl, SqT.of upd_same, rfl, _, _, rfl, _, _, rfl, rfl, rfl, _, rfl, _, rfl, _, rfl, _, rfl, a, xs, rfl, tupFix (Fix.of s2) ta, fun z => ?_, fun _ p hp => ?_⟩
        · exfalso
          have z := z.2
          rw [sx] at z
          omega
        · have cT : cutV xs none (some (i : Int)) = xs.take i := by
            unfold cutV
            rw [sx]
            show (xs.drop 0).take (i - 0) = _
            rw [List.drop_zero, Nat.sub_zero]
          rw [cT]
          have s3 := s2.trans (same_new hp (.tup (xs.take i)))
          refine ⟨stD st, (l.take i).map stD, dp_same s3 dst, .tup (SqT.of upd_same) (dpa_of (all2_mapR ((al.take i).imp fun _ _ r => dp_same s3 r))), (sh_st (nl _ (at_mem est))).ok (by decide), (sh_tup fun b hb => sh_st (nl _ (List.mem_of_mem_take hb))).ok (by decide), _, rfl, ?_⟩
          rw [any_st]
          have sf := same_new hp (.tup (xs.take i))
          cases k : decide (st ∈ l.take i) with
          | true => exact iteT ⟨_, rfl, mf_yes m hD (fun _ _ _ _ _ h => h) ei (by simp; omega) (sT.trans sf) (by rw [egd]; exact k) rfl⟩
          | false => exact iteF (mf_no m (fun _ _ _ _ _ h => h) ei (sT.trans sf) (by rw [egd]; exact k))
      · have ey := al2.map_eq (f := fun i : Nat => V.int (i : Nat)) fun _ _ h => h
        rw [ey, nat_ints, ll] at e
        refine ⟨by show 0 ≤ sizeLine; decide, fun t ht => ?_⟩
        have s2 := same_new ht (.lst [])
        refine rd_neNil (SqL.of (s2 _ _ e)) (SqL.of upd_same) ⟨_, rfl, ?_⟩
        have e3 : decide (((List.range l.length).filter fun i => decide (l.getD i d0 ∈ l.take i)).map (fun i : Nat => (i : Int)) = []) = decide l.Nodup := decide_eq_decide.mpr (by rw [List.map_eq_nil_iff]; exact keep_nodup)
        rw [e3]
        by_cases k : l.Nodup
        · rw [decide_eq_true k]
          exact iteF ⟨rfl, s1.trans s2, k⟩
        · have q := q _ (s1.trans s2)
          unfold ringB at q
          rw [decide_eq_false k] at q ⊢
          exact iteT q
    rintro σ H1 ⟨rfl, s1, nd⟩
    refine ⟨fun σ H' => ∃ (D : Addr) (o6 o7 : Option V), σ = [some (.ref u), some (.ref a), some (.ref r), some (.ref g), some (.ref c), some (.ref D), o6, o7] ∧ Same H1 H' ∧ H' D = some (.lst ((waysF G Ca l).map V.int)), ?_, ?_⟩
    · refine .inr ⟨_, rfl, a, rfl, ⟨xs, tupFix (Fix.of s1) ta⟩, fun D hD => ?_⟩
      refine lc_mfe en_tup (fun _ => true) (fun _ y i => y = .int (wayI G Ca (prvI l i) (l.getD i d0))) (fun H' s => tupFix (Fix.of (s1.trans s)) ta) hD (fun i x T H' ex hi ei s2 m hT => ?_) (fun H' ys s2 e al2 => ?_)
      · obtain ⟨st, est, dst⟩ := al.get ex
        have sT := same_new hT (.tup [.int (i : Nat), x])
        have s3 := (s1.trans s2).trans sT
        have egd : l.getD i d0 = st := by rw [List.getD_eq_getElem?_getD, est]; rfl
        obtain ⟨y, ey, ry⟩ := prv_at al (show i < l.length by omega)
        have np : prvI l i ∈ l := by
          have gm : ∀ j, j < l.length → l.getD j d0 ∈ l := fun j hj => by
            rw [List.getD_eq_getElem?_getD, List.getElem?_eq_getElem hj]
            exact List.getElem_mem _
          unfold prvI
          split
          · exact gm _ (by omega)
          · exact gm _ (by omega)
        refine ⟨T, _, rfl, SqT.of upd_same, rfl, _, _, rfl, _, _, rfl, rfl, rfl, _, rfl, _, rfl, _, rfl, _, rfl, _, rfl, _, _, rfl, rfl, a, xs, ((i : Nat) : Int) - 1, y, rfl, rfl, tupFix (Fix.of s3) ta, ey, _, rfl, r, g, c, y, x, prvI l i, st, G, Ca, rfl, lg.same s3, lc.same s3, nG, nC, dp_same s3 ry, dp_same s3 dst, nl _ np, nl _ (at_mem est), fun H4 s4 => ?_⟩
        exact mf_yes m hD (fun _ _ _ _ _ h => h) ei (by simp; omega) (sT.trans s4) rfl (by rw [egd])
      · rw [Rd.filter_all] at al2
        have ey := al2.map_eq (f := fun i : Nat => V.int (wayI G Ca (prvI l i) (l.getD i d0))) fun _ _ h => h
        refine ⟨D, _, _, rfl, s2, ?_⟩
        rw [e, ey, ll]
        unfold waysF
        rw [List.map_map]; rfl
    rintro σ H2 ⟨D, o6, o7, rfl, s2, ew⟩
    have q := q _ (s1.trans s2)
    unfold ringB at q
    rw [decide_eq_true nd, Bool.true_and] at q
    have fl : ((waysF G Ca l).map V.int).all flatV = true := by rw [List.all_map]; exact List.all_eq_true.mpr fun _ _ => rfl
    have iv : ∀ k : Int, inV (.int k) ((waysF G Ca l).map V.int) = (waysF G Ca l).any fun n => n == k := fun k => by
      unfold inV
      rw [List.any_map]; rfl
    refine ⟨_, rfl, D, _, rfl, .inl (SqL.of ew), rfl, fl, ?_⟩
    rw [iv]
    refine ⟨_, rfl, ?_⟩
    cases k : (waysF G Ca l).any fun n => n == 0 with
    | true =>
      rw [k] at q
      exact iteF q
    | false =>
      rw [k] at q
      refine iteT ⟨_, rfl, D, _, rfl, .inl (SqL.of ew), rfl, fl, ?_⟩
      rw [iv]
      exact q
end
end R0

namespace R0
open PySem PySem.Spec PyProof.Rows L2 Hb St Sq Ow En Zp RZ Rd Xb Da Wa Tn Rg Dc Mr Ec Su Lz
section
variable {P : Program} {w : World} {K : PySem.W.Frag} {mg : Str → Option Value} {base : Heap} {C : Addr}
/-- one step on, and whether ahead so far -/
def NxB (G Ca : List Jn) (S : List Stp) (q p : Stp × Bool) : Prop := p.1 ∈ S ∧ 0 < wayI G Ca q.1 p.1 ∧ p.2 = (q.2 || decide (wayI G Ca q.1 p.1 = 2))
def Rcn (G Ca : List Jn) (S : List Stp) (f : Stp) : Nat → Stp × Bool → Prop
  | 0, p => p = (f, false)
  | n + 1, p => ∃ q, Rcn G Ca S f n q ∧ NxB G Ca S q p
theorem Rcn.mem {G Ca : List Jn} {S : List Stp} {f : Stp} (hf : f ∈ S) : ∀ {n : Nat} {p : Stp × Bool}, Rcn G Ca S f n p → p.1 ∈ S
  | 0, _, h => by rw [show _ = _ from h]; exact hf
  | _ + 1, _, ⟨_, _, h⟩ => h.1
def RngP (G Ca : List Jn) (S : List Stp) (n : Nat) : Prop := ∃ f ∈ S, Rcn G Ca S f n (f, true)
def pbD (p : Stp × Bool) : PyData := .tuple [stD p.1, .bool p.2]
theorem noL_pb (p : Stp × Bool) : noL (pbD p) = true := rfl
theorem sh_bool (n : Nat) (b : Bool) : Sh n (.bool b) := ⟨rfl, Nat.zero_le _⟩
theorem sh_pb {p : Stp × Bool} (h : IsNm p.1.1) : Sh 2 (pbD p) := sh_two (sh_st h) (sh_bool 1 _)
theorem eqv_pb (p q : Stp × Bool) : PyData.eqv (pbD p) (pbD q) = decide (p = q) := by
  show (PyData.eqv (stD p.1) (stD q.1) && (PyData.eqv (.bool p.2) (.bool q.2) && PyData.eqvAll [] [])) = _
  rw [eqv_st, show PyData.eqvAll [] [] = true from rfl, Bool.and_true]
  obtain ⟨p1, p2⟩ := p
  obtain ⟨q1, q2⟩ := q
  have e : PyData.eqv (.bool p2) (.bool q2) = decide (p2 = q2) := by cases p2 <;> cases q2 <;> rfl
  rw [e, ← Bool.decide_and]
  exact decide_eq_decide.mpr ⟨fun ⟨a, b⟩ => by rw [show p1 = q1 from a, show p2 = q2 from b], fun e => by cases e; exact ⟨rfl, rfl⟩⟩
theorem any_pb (l : List (Stp × Bool)) (p : Stp × Bool) : ((l.map pbD).any fun z => PyData.eqv z (pbD p)) = decide (p ∈ l) := by
  induction l with
  | nil => simp
  | cons a r ih =>
    rw [List.map_cons, List.any_cons, ih, eqv_pb, ← Bool.decide_or]
    exact decide_eq_decide.mpr (by rw [List.mem_cons, eq_comm])
theorem nd_leG {α : Type} [DecidableEq α] : ∀ (m l : List α), m.Nodup → (∀ x ∈ m, x ∈ l) → m.length ≤ l.length
  | [], _, _, _ => Nat.zero_le _
  | x :: m, l, nd, h => by
    obtain ⟨n1, n2⟩ := List.nodup_cons.mp nd
    have hx := h x List.mem_cons_self
    have := nd_leG m (l.erase x) n2 fun y hy => (List.mem_erase_of_ne (fun z => n1 (by rw [← z]; exact hy))).mpr (h y (List.mem_cons_of_mem _ hy))
    rw [List.length_erase_of_mem hx] at this
    have := List.length_pos_of_mem hx
    rw [List.length_cons]
    omega
theorem pb_len {S : List Stp} {A : List (Stp × Bool)} (nd : A.Nodup) (h : ∀ p ∈ A, p.1 ∈ S) : A.length ≤ 2 * S.length := by
  have := nd_leG A (S.map (fun s => (s, false)) ++ S.map fun s => (s, true)) nd fun p hp => by
    obtain ⟨s, b⟩ := p
    have := h _ hp
    cases b with
    | false => exact List.mem_append_left _ (List.mem_map.mpr ⟨s, this, rfl⟩)
    | true => exact List.mem_append_right _ (List.mem_map.mpr ⟨s, this, rfl⟩)
  rw [List.length_append, List.length_map, List.length_map] at this
  omega
theorem or_val {σ : L2.St} {H : Hp} {Q : VK} {i j : Nat} {b : Bool} {n : Int} (h1 : σ[i]? = some (some (.bl b))) (h2 : σ[j]? = some (some (.int n))) (q : Q (.bl (b || decide (n = 2))) H) : tOrV (tVar i) (tOp rEq (tVar j) (tC (V.int 2))) σ H Q := by
  have e : decide (V.int n = V.int 2) = decide (n = 2) := decide_eq_decide.mpr ⟨fun h => by injection h, fun h => by rw [h]⟩
  cases b with
  | true => exact ⟨_, h1, true, rfl, iteT q⟩
  | false =>
    rw [Bool.false_or, ← e] at q
    exact ⟨_, h1, false, rfl, iteF ⟨_, h2, rfl, q⟩⟩
abbrev s__law_rings : Stmt := top 50
theorem sc__law_rings : FnScope ["told", "steps", "many", "rooms", "gongs", "calls", "first", "here", "turn", "ahead", "step", "is_ahead_v", "other", "way"] ["told", "steps", "many"] (defScope s__law_rings) := ⟨rfl, rfl, rfl, by decide +kernel, rfl, by decide +kernel, by decide +kernel⟩
def spRings (K : PySem.W.Frag) : Sp := fun vs H Q _ => ∃ (u q : Addr) (rs : List Rm) (G Ca : List Jn) (S : List Stp) (many : Nat), vs = [.ref u, .ref q, .int many] ∧ ToldAt K H u rs G Ca ∧ (∀ j ∈ G, NmJ j) ∧ (∀ j ∈ Ca, NmJ j) ∧ ListAt K H q stD S ∧ (∀ s ∈ S, IsNm s.1) ∧ S.length ≤ 10 ∧ many ≤ 10 ∧ ∀ b H', Same H H' → (b = true ↔ RngP G Ca S many) → Q (.bl b) H'
theorem ok_rings {f : Addr} {fd : FuncData} (F : Fun K "_law_rings" "_law_rings" s__law_rings f fd) (C__law_leads : Cl P w K mg base "_law_leads" ["rooms", "gongs", "calls", "one", "other"] [] 1 (spLLeads K)) (n_range : mg "range" = none) : FnOk P w K mg base CX0 2 f fd ["told", "steps", "many"] (spRings K) := by
  refine F.ok sc__law_rings (fun vs H Q E h => ?_) (fun cdv A outer s H vs Q E hr h => ?_)
  · obtain ⟨_, _, _, _, _, _, _, rfl, _⟩ := h
    rfl
  · obtain ⟨u, qa, rs, G, Ca, S, many, rfl, ⟨r, g, c, tu, lr, lg, lc⟩, nG, nC, ⟨ys, ey, al⟩, nS, lS, lm, q⟩ := h
    refine ⟨_, (pss_cons (ps_asg (pv 0) (pg_tup rfl (pgs_cons (pg_name (i := 3) sc__law_rings.nd rfl (Or.inl rfl)) (pgs_cons (pg_name (i := 4) sc__law_rings.nd rfl (Or.inl rfl)) (pgs_cons (pg_name (i := 5) sc__law_rings.nd rfl (Or.inl rfl)) pgs_nil)))))
    (Evl.pss_cut (ps_for PassesOwn.never rfl (pi_seq (pv 1)) (pg_name (i := 6) sc__law_rings.nd rfl (Or.inl rfl))
      (pss_cons (ps_set (i := 7) sc__law_rings.nd rfl (Or.inl rfl) (pe_lst (pa_cons (pe_tup (pa_cons (pv 6) (pa_cons pe_bl pa_nil))) pa_nil)))
    (Evl.pss_cut (ps_for PassesOwn.never rfl (pi_range1 (by rfl) n_range (pa_cons (pv 2) pa_nil)) (pg_name (i := 8) sc__law_rings.nd rfl (Or.inl rfl))
      (pss_cons (ps_set (i := 9) sc__law_rings.nd rfl (Or.inl rfl) (pe_lst pa_nil))
    (Evl.pss_cut (ps_for PassesOwn.never rfl (pi_seq (pv 7)) (pg_tup rfl (pgs_cons (pg_name (i := 10) sc__law_rings.nd rfl (Or.inl rfl)) (pgs_cons (pg_name (i := 11) sc__law_rings.nd rfl (Or.inl rfl)) pgs_nil)))
      (pss_one (ps_for PassesOwn.never rfl (pi_seq (pv 1)) (pg_name (i := 12) sc__law_rings.nd rfl (Or.inl rfl))
      (pss_cons (ps_set (i := 13) sc__law_rings.nd rfl (Or.inl rfl) (pe_use C__law_leads (hr.mono (by decide)) rfl (pa_cons (pv 3) (pa_cons (pv 4) (pa_cons (pv 5) (pa_cons (pv 10) (pa_cons (pv 12) pa_nil)))))))
    (pss_one (ps_if (PW.pt (pw_and (pt_cmpR op_gt (pv 13) pe_int (nomark _)) (pw_and1 (pt_cmpR (op_notInD hr.units65) (pe_tup (pa_cons (pv 12) (pa_cons (pe_or (pv 11) (pe_one (pe_cmpR op_eq (pv 13) pe_int (nomark _)))) pa_nil))) (pv 9) rfl)))) (pss_one (ps_expr (pe_bm PySem.F.plainAttrs_list PySem.F.slot_list_append PySem.F.type_list_append mt_append (pv 9) (pa_cons (pe_tup (pa_cons (pv 12) (pa_cons (pe_or (pv 11) (pe_one (pe_cmpR op_eq (pv 13) pe_int (nomark _)))) pa_nil))) pa_nil)))) pss_nil))))))
    (pss_one (ps_set (i := 7) sc__law_rings.nd rfl (Or.inl rfl) (pv 9))))))
    (pss_one (ps_if (pt_cmpR (op_inD hr.units65) (pe_tup (pa_cons (pv 6) (pa_cons pe_bl pa_nil))) (pv 7) rfl) (pss_one (ps_ret pe_bl)) pss_nil)))))
    (pss_one (ps_ret pe_bl)))), ?_⟩
    have ll := al.len
    refine ⟨_, rfl, u, _, rfl, tu, rfl, _, _, rfl, _, _, rfl, _, _, rfl, rfl, ?_⟩
    refine ⟨fun σ H' => Same H H' ∧ ∀ f ∈ S, ¬ Rcn G Ca S f many (f, true), ?_, ?_⟩
    · refine ⟨_, rfl, qa, ys, rfl, SqX.lst ey, fun J SS W z0 => ?_⟩
      refine for_sq W (fun i σ H' => ∃ o6 o7 o8 o9 o10 o11 o12 o13, σ = [some (.ref u), some (.ref qa), some (.int many), some (.ref r), some (.ref g), some (.ref c), o6, o7, o8, o9, o10, o11, o12, o13] ∧ Same H H' ∧ ∀ f ∈ S.take i, ¬ Rcn G Ca S f many (f, true)) ⟨_, _, _, _, _, _, _, _, rfl, Same.refl _, by simp⟩ (fun i σ H' pv => ?_) ?_ ?_
      · obtain ⟨_, _, _, _, _, _, _, _, _, s, _⟩ := pv
        exact W.keep (fun o e => s _ _ e) z0
      · rintro i σ H3 y ey3 ⟨o6, o7, o8, o9, o10, o11, o12, o13, rfl, s3, no⟩
        obtain ⟨f, ef, df⟩ := al.get ey3
        have fS := at_mem ef
        have wh : wayI G Ca f f = wayI G Ca f f := rfl
        have nf := nS f fS
        refine ⟨_, rfl, by show 2 ≤ sizeLine; decide, fun t0 ht0 => ⟨by show 1 ≤ sizeLine; decide, fun h0 hh0 => ?_⟩⟩
        have s4 := (same_new ht0 (.tup [y, .bl false])).trans (same_new hh0 (.lst [.ref t0]))
        have e4 : upd (upd H3 t0 (.tup [y, .bl false])) h0 (.lst [.ref t0]) h0 = some (.lst [.ref t0]) := upd_same
        have t4 : upd (upd H3 t0 (.tup [y, .bl false])) h0 (.lst [.ref t0]) t0 = some (.tup [y, .bl false]) := by
          rw [upd_ne (fun z => by rw [z, upd_same] at hh0; cases hh0), upd_same]
        generalize upd (upd H3 t0 (.tup [y, .bl false])) h0 (.lst [.ref t0]) = H4 at s4 e4 t4 ⊢
        have s04 := s3.trans s4
        have l0 : ListAt K H4 h0 pbD [(f, false)] := ⟨_, e4, .cons (.tup (SqT.of t4) (.cons (dp_same s04 df) (.cons (.bl false) .nil))) .nil⟩
        refine ⟨fun σ H' => ∃ h o8 o9 o10 o11 o12 o13 L, σ = [some (.ref u), some (.ref qa), some (.int many), some (.ref r), some (.ref g), some (.ref c), some y, some (.ref h), o8, o9, o10, o11, o12, o13] ∧ Same H H' ∧ ListAt K H' h pbD L ∧ L.Nodup ∧ ∀ p, p ∈ L ↔ Rcn G Ca S f many p, ?_, ?_⟩
        · refine ⟨_, rfl, many, rfl, by omega, by omega, ?_⟩
          refine for_range (n := many) (fun i σ H' => ∃ h o8 o9 o10 o11 o12 o13 L, σ = [some (.ref u), some (.ref qa), some (.int many), some (.ref r), some (.ref g), some (.ref c), some y, some (.ref h), o8, o9, o10, o11, o12, o13] ∧ Same H H' ∧ ListAt K H' h pbD L ∧ L.Nodup ∧ ∀ p, p ∈ L ↔ Rcn G Ca S f i p) ⟨h0, _, _, _, _, _, _, _, rfl, s04, l0, by simp, fun p => by rw [List.mem_singleton]; exact Iff.rfl⟩ ?_ ?_
          · rintro n σ H5 hn ⟨h, o8, o9, o10, o11, o12, o13, L, rfl, s5, lL, nd, mem⟩
            refine ⟨by show 0 ≤ sizeLine; decide, fun D hD => ?_⟩
            have s6 := same_new hD (.lst [])
            have e6 : upd H5 D (.lst []) D = some (.lst []) := upd_same
            generalize upd H5 D (.lst []) = H6 at s6 e6 ⊢
            have s06 := s5.trans s6
            have hDh : H D = none := none_back s5 hD
            obtain ⟨hs, eh, alh⟩ := lL.same s6
            have nhD : h ≠ D := ne_of_none (show H5 h = some _ from lL.choose_spec.1) hD
            have lLS : ∀ p ∈ L, p.1 ∈ S := fun p hp => ((mem p).mp hp).mem fS
            have lh := alh.len
            refine ⟨fun σ H' => ∃ o10 o11 o12 o13 A, σ = [some (.ref u), some (.ref qa), some (.int many), some (.ref r), some (.ref g), some (.ref c), some y, some (.ref h), some (.int (0 + (n : Nat))), some (.ref D), o10, o11, o12, o13] ∧ Same H H' ∧ ListAt K H' D pbD A ∧ A.Nodup ∧ ∀ p, p ∈ A ↔ ∃ q ∈ L, NxB G Ca S q p, ?_, ?_⟩
            · refine ⟨_, rfl, h, hs, rfl, SqX.lst eh, fun J2 S2 W2 z2 => ?_⟩
              refine for_sq W2 (fun i σ H' => ∃ o10 o11 o12 o13 A, σ = [some (.ref u), some (.ref qa), some (.int many), some (.ref r), some (.ref g), some (.ref c), some y, some (.ref h), some (.int (0 + (n : Nat))), some (.ref D), o10, o11, o12, o13] ∧ Same H H' ∧ Kept D H6 H' ∧ ListAt K H' D pbD A ∧ A.Nodup ∧ ∀ p, p ∈ A ↔ ∃ q ∈ L.take i, NxB G Ca S q p) ⟨_, _, _, _, [], rfl, s06, Kept.refl _ _, ⟨[], e6, .nil⟩, List.nodup_nil, fun p => by simp⟩ (fun i σ H' pv => ?_) ?_ ?_
              · obtain ⟨_, _, _, _, _, _, _, k, _⟩ := pv
                exact W2.keep (fun o e => k _ _ e nhD) z2
              · rintro i σ H7 x ex ⟨o10, o11, o12, o13, A, rfl, s7, k7, lA, ndA, memA⟩
                obtain ⟨pq, epq, dpq⟩ := alh.get ex
                have f7 : Fix H6 H7 := Fix.kept e6 k7
                obtain ⟨tb, v1, v2, rfl, htb, d1, d2⟩ : ∃ tb v1 v2, x = .ref tb ∧ SqT K H7 tb [v1, v2] ∧ Dp K H7 v1 (stD pq.1) ∧ Dp K H7 v2 (.bool pq.2) := by
                  have := dp_fix f7 (noL_pb pq) dpq
                  cases this with
                  | tup ht a =>
                    cases a with
                    | cons a1 r1 =>
                      cases r1 with
                      | cons a2 r2 =>
                        cases r2
                        exact ⟨_, _, _, rfl, ht, a1, a2⟩
                cases d2
                refine ⟨tb, _, rfl, htb, rfl, _, _, rfl, _, _, rfl, rfl, ?_⟩
                have ey7 := s7 _ _ ey
                refine ⟨_, rfl, qa, ys, rfl, SqX.lst ey7, fun J3 S3 W3 z3 => ?_⟩
                have nqD : qa ≠ D := ne_of_none ey hDh
                refine for_sq W3 (fun j σ H' => ∃ o12 o13 A, σ = [some (.ref u), some (.ref qa), some (.int many), some (.ref r), some (.ref g), some (.ref c), some y, some (.ref h), some (.int (0 + (n : Nat))), some (.ref D), some v1, some (.bl pq.2), o12, o13] ∧ Same H H' ∧ Kept D H6 H' ∧ Kept D H7 H' ∧ ListAt K H' D pbD A ∧ A.Nodup ∧ ∀ p, p ∈ A ↔ (∃ q ∈ L.take i, NxB G Ca S q p) ∨ (p.1 ∈ S.take j ∧ NxB G Ca S pq p)) ⟨_, _, A, rfl, s7, k7, Kept.refl _ _, lA, ndA, fun p => by rw [memA]; simp⟩ (fun j σ H' pv => ?_) ?_ ?_
                · obtain ⟨_, _, _, _, _, _, k, _⟩ := pv
                  exact W3.keep (fun o e => k _ _ e nqD) z3
                · rintro j σ H8 x3 ex3 ⟨o12, o13, B, rfl, s8, k68, k78, lB, ndB, memB⟩
                  obtain ⟨t, et, dt⟩ := al.get ex3
                  have tS := at_mem et
                  have qS := lLS pq (at_mem epq)
                  have f78 : Fix H7 H8 := Fix.kept lA.choose_spec.1 k78
                  have d18 := dp_fix f78 (noL_st _) d1
                  refine ⟨_, rfl, _, rfl, _, rfl, _, rfl, _, rfl, r, g, c, v1, x3, pq.1, t, G, Ca, rfl, lg.same s8, lc.same s8, nG, nC, d18, dp_same s8 dt, nS _ qS, nS t tS, fun H9 s9 => ?_⟩
                  have s89 := s8.trans s9
                  have k69 := k68.trans (Hb.Same.kept s9)
                  have k79 := k78.trans (Hb.Same.kept s9)
                  have stay : (¬ NxB G Ca S pq (t, pq.2 || decide (wayI G Ca pq.1 t = 2)) ∨ (t, pq.2 || decide (wayI G Ca pq.1 t = 2)) ∈ B) → ∀ p, p ∈ B ↔ (∃ q ∈ L.take i, NxB G Ca S q p) ∨ (p.1 ∈ S.take (j + 1) ∧ NxB G Ca S pq p) := fun hh p => by
                    rw [memB p, List.take_add_one, et, List.mem_append]
                    constructor
                    · rintro (h | ⟨h1, h2⟩)
                      · exact .inl h
                      · exact .inr ⟨.inl h1, h2⟩
                    · rintro (h | ⟨h1 | h1, h2⟩)
                      · exact .inl h
                      · exact .inr ⟨h1, h2⟩
                      · have e1 : p.1 = t := by simpa using h1
                        have ep : p = (t, pq.2 || decide (wayI G Ca pq.1 t = 2)) := by
                          obtain ⟨p1, p2⟩ := p
                          obtain ⟨_, _, h3⟩ := h2
                          simp only at e1 h3
                          rw [e1] at h3
                          rw [e1, h3]
                        rcases hh with hh | hh
                        · exact (hh (ep ▸ h2)).elim
                        · rw [← ep] at hh
                          exact (memB p).mp hh
                  generalize hb : (pq.2 || decide (wayI G Ca pq.1 t = 2)) = b at stay
                  refine ⟨_, rfl, _, _, rfl, rfl, _, rfl, iteD (fun pos => ?_) fun npos => ?_⟩
                  · refine ⟨_, rfl, or_val rfl rfl ⟨by show 2 ≤ sizeLine; decide, fun t9 ht9 => ?_⟩⟩
                    rw [hb]
                    have s10 := same_new ht9 (.tup [x3, .bl b])
                    have e10 : upd H9 t9 (.tup [x3, .bl b]) t9 = some (.tup [x3, .bl b]) := upd_same
                    generalize upd H9 t9 (.tup [x3, .bl b]) = H10 at s10 e10 ⊢
                    have lB10 := (lB.same s9).same s10
                    have sBS : ∀ p ∈ B, p.1 ∈ S := fun p hp => by
                      rcases (memB p).mp hp with ⟨_, _, h⟩ | ⟨_, h⟩ <;> exact h.1
                    refine ⟨_, rfl, pbD (t, b), B.map pbD, .tup (SqT.of e10) (.cons (dp_same ((s89.trans s10)) dt) (.cons (.bl b) .nil)), lB10.dp, (sh_pb (nS t tS)).ok (by decide), (sh_lst fun p hp => sh_pb (nS _ (sBS p hp))).ok (by decide), _, rfl, ?_⟩
                    rw [any_pb]
                    refine iteN (fun nin => ?_) fun isin => ⟨_, _, B, rfl, s89.trans s10, k69.trans (Hb.Same.kept s10), k79.trans (Hb.Same.kept s10), lB10, ndB, stay (.inr isin)⟩
                    have lBB := pb_len ndB sBS
                    obtain ⟨zs, ez, alz⟩ := lB10
                    have lz := alz.len
                    refine ⟨_, rfl, .inl ⟨rfl, _, SqL.of ez⟩, _, rfl, or_val rfl rfl ⟨by show 2 ≤ sizeLine; decide, fun g hg => ?_⟩⟩
                    rw [hb]
                    have s11 := same_new hg (.tup [x3, .bl b])
                    have e11 : upd H10 g (.tup [x3, .bl b]) g = some (.tup [x3, .bl b]) := upd_same
                    have ng : g ≠ D := (ne_of_none ez hg).symm
                    generalize upd H10 g (.tup [x3, .bl b]) = H11 at s11 e11 ⊢
                    have ez11 := s11 _ _ ez
                    have s811 := (s9.trans s10).trans s11
                    have fx : Fix H11 (upd H11 D (.lst (zs ++ [.ref g]))) := Fix.lst ez11
                    have kD : Kept D H11 (upd H11 D (.lst (zs ++ [.ref g]))) := fun c o e n => by rw [upd_ne n]; exact e
                    refine ⟨D, zs, _, rfl, rfl, ez11, by rw [sizeLine_eq]; omega, _, _, B ++ [(t, b)], rfl, fun c o e => ?_, (k68.trans (Hb.Same.kept s811)).trans kD, (k78.trans (Hb.Same.kept s811)).trans kD, ⟨_, upd_same, ?_⟩, ?_, fun p => ?_⟩
                    · rw [upd_ne (ne_of_none e hDh)]
                      exact s11 _ _ (s10 _ _ (s89 _ _ e))
                    · refine (alz.imp fun _ _ r => dp_fix fx (noL_pb _) (dp_same s11 r)).app (.cons (dp_fix fx (noL_pb _) (.tup (SqT.of e11) (.cons (dp_same ((s89.trans s10).trans s11) dt) (.cons (.bl b) .nil)))) .nil)
                    · rw [List.nodup_append]
                      exact ⟨ndB, by simp, fun x hx y hy => by rw [List.mem_singleton.mp hy]; exact fun z => nin (z ▸ hx)⟩
                    · rw [List.mem_append, memB p, List.take_add_one, et, List.mem_append]
                      constructor
                      · rintro ((h | ⟨h1, h2⟩) | h)
                        · exact .inl h
                        · exact .inr ⟨.inl h1, h2⟩
                        · rw [List.mem_singleton.mp h]
                          exact .inr ⟨.inr (by simp), tS, pos, hb.symm⟩
                      · rintro (h | ⟨h1 | h1, h2⟩)
                        · exact .inl (.inl h)
                        · exact .inl (.inr ⟨h1, h2⟩)
                        · have e1 : p.1 = t := by simpa using h1
                          obtain ⟨p1, p2⟩ := p
                          obtain ⟨_, _, h3⟩ := h2
                          simp only at e1 h3
                          rw [e1, hb] at h3
                          rw [e1, h3]
                          exact .inr (List.mem_singleton.mpr rfl)
                  · exact ⟨_, _, B, rfl, s89, k69, k79, lB.same s9, ndB, stay (.inl fun h => npos h.2.1)⟩
                · rintro σ H8 ⟨o12, o13, B, rfl, s8, k68, k78, lB, ndB, memB⟩
                  refine ⟨_, _, _, _, B, rfl, s8, k68, lB, ndB, fun p => ?_⟩
                  rw [memB p, ll, List.take_length, List.take_add_one, epq]
                  constructor
                  · rintro (⟨z, h1, h2⟩ | ⟨h1, h2⟩)
                    · exact ⟨z, List.mem_append_left _ h1, h2⟩
                    · exact ⟨pq, by simp, h2⟩
                  · rintro ⟨z, h1, h2⟩
                    rcases List.mem_append.mp h1 with h1 | h1
                    · exact .inl ⟨z, h1, h2⟩
                    · have : z = pq := by simpa using h1
                      subst this
                      exact .inr ⟨h2.1, h2⟩
              · rintro σ H7 ⟨o10, o11, o12, o13, A, rfl, s7, k7, lA, ndA, memA⟩
                refine ⟨_, _, _, _, A, rfl, s7, lA, ndA, fun p => ?_⟩
                rw [memA p, lh, List.take_length]
            rintro σ H7 ⟨o10, o11, o12, o13, A, rfl, s7, lA, ndA, memA⟩
            refine ⟨_, rfl, D, _, _, _, _, _, _, A, rfl, s7, lA, ndA, fun p => ?_⟩
            rw [memA p]
            exact ⟨fun ⟨z, h1, h2⟩ => ⟨z, (mem z).mp h1, h2⟩, fun ⟨z, h1, h2⟩ => ⟨z, (mem z).mpr h1, h2⟩⟩
          · rintro σ H5 ⟨h, o8, o9, o10, o11, o12, o13, L, rfl, s5, lL, nd, mem⟩
            exact ⟨h, _, _, _, _, _, _, L, rfl, s5, lL, nd, mem⟩
        rintro σ H5 ⟨h, o8, o9, o10, o11, o12, o13, L, rfl, s5, lL, nd, mem⟩
        refine ⟨_, rfl, by show 2 ≤ sizeLine; decide, fun t9 ht9 => ?_⟩
        have s6 := same_new ht9 (.tup [y, .bl true])
        have e6 : upd H5 t9 (.tup [y, .bl true]) t9 = some (.tup [y, .bl true]) := upd_same
        generalize upd H5 t9 (.tup [y, .bl true]) = H6 at s6 e6 ⊢
        refine ⟨_, rfl, pbD (f, true), L.map pbD, .tup (SqT.of e6) (.cons (dp_same (s5.trans s6) df) (.cons (.bl true) .nil)), (lL.same s6).dp, (sh_pb nf).ok (by decide), (sh_lst fun p hp => sh_pb (nS _ (((mem p).mp hp).mem fS))).ok (by decide), _, rfl, ?_⟩
        rw [any_pb]
        refine iteD (fun c => ?_) fun c => ⟨_, _, _, _, _, _, _, _, rfl, s5.trans s6, fun f' hf' => ?_⟩
        · exact q true _ (s5.trans s6) ⟨fun _ => ⟨f, fS, (mem _).mp c⟩, fun _ => rfl⟩
        · rw [List.take_add_one, ef, List.mem_append] at hf'
          rcases hf' with h | h
          · exact no f' h
          · have : f' = f := by simpa using h
            subst this
            exact fun z => c ((mem _).mpr z)
      · rintro σ H3 ⟨o6, o7, o8, o9, o10, o11, o12, o13, rfl, s3, no⟩
        refine ⟨s3, ?_⟩
        rwa [ll, List.take_length] at no
    rintro σ H1 ⟨s1, no⟩
    exact q false H1 s1 ⟨(fun z => nomatch z), fun ⟨f, hf, z⟩ => (no f hf z).elim⟩
end
end R0

namespace R0
open PySem PySem.Spec PyProof.Rows L2 Hb St Sq Ow En Zp RZ Rd Xb Da Wa Tn Rg Dc Mr Ec Su Lz
section
variable {P : Program} {w : World} {K : PySem.W.Frag} {mg : Str → Option Value} {base : Heap} {C : Addr}
def FewIs (G Ca : List Jn) (S : List Stp) (n : Int) : Prop := (∃ m : Nat, n = m ∧ 1 ≤ m ∧ m ≤ S.length ∧ RngP G Ca S m ∧ ∀ k, 1 ≤ k → k < m → ¬ RngP G Ca S k) ∨ (n = 99 ∧ ∀ k, 1 ≤ k → k ≤ S.length → ¬ RngP G Ca S k)
abbrev s__law_fewest : Stmt := top 49
theorem sc__law_fewest : FnScope ["told", "rooms", "gongs", "calls", "steps", "many"] ["told"] (defScope s__law_fewest) := ⟨rfl, rfl, rfl, by decide +kernel, rfl, by decide +kernel, by decide +kernel⟩
def spFew (K : PySem.W.Frag) : Sp := fun vs H Q _ => ∃ (u : Addr) (rs : List Rm) (G Ca : List Jn), vs = [.ref u] ∧ ToldAt K H u rs G Ca ∧ (∀ j ∈ G, NmJ j) ∧ (∀ j ∈ Ca, NmJ j) ∧ rs.length ≤ 10 ∧ (∀ a ∈ rs, a.2.length ≤ 10) ∧ (∀ s ∈ stepsR rs, IsNm s.1) ∧ (stepsR rs).length ≤ 10 ∧ ∀ n H', Same H H' → FewIs G Ca (stepsR rs) n → Q (.int n) H'
theorem ok_few {f : Addr} {fd : FuncData} (F : Fun K "_law_fewest" "_law_fewest" s__law_fewest f fd) (C__law_rings : Cl P w K mg base "_law_rings" ["told", "steps", "many"] [] 2 (spRings K)) (C__law_steps : Cl P w K mg base "_law_steps" ["rooms"] [] 1 (spSteps K)) (n_len : mg "len" = none) (n_range : mg "range" = none) : FnOk P w K mg base CX0 3 f fd ["told"] (spFew K) := by
  refine F.ok sc__law_fewest (fun vs H Q E h => ?_) (fun cdv A outer s H vs Q E hr h => ?_)
  · obtain ⟨_, _, _, _, rfl, _⟩ := h
    rfl
  · obtain ⟨u, rs, G, Ca, rfl, td, nG, nC, k1, k2, nS, lS, q⟩ := h
    obtain ⟨r, g, c, tu, lr, lg, lc⟩ := id td
    refine ⟨_, (pss_cons (ps_asg (pv 0) (pg_tup rfl (pgs_cons (pg_name (i := 1) sc__law_fewest.nd rfl (Or.inl rfl)) (pgs_cons (pg_name (i := 2) sc__law_fewest.nd rfl (Or.inl rfl)) (pgs_cons (pg_name (i := 3) sc__law_fewest.nd rfl (Or.inl rfl)) pgs_nil)))))
    (pss_cons (ps_set (i := 4) sc__law_fewest.nd rfl (Or.inl rfl) (pe_use C__law_steps (hr.mono (by decide)) rfl (pa_cons (pv 1) pa_nil)))
    (Evl.pss_cut (ps_for PassesOwn.never rfl (pi_range2 (by rfl) n_range (pa_cons pe_int (pa_cons (pe_op op_add (pe_callB call_len_seq (by rfl) n_len PySem.boot_len (pa_cons (pv 4) pa_nil)) pe_int) pa_nil))) (pg_name (i := 5) sc__law_fewest.nd rfl (Or.inl rfl))
      (pss_one (ps_if (pt_val (pe_use C__law_rings (hr.mono (by decide)) rfl (pa_cons (pv 0) (pa_cons (pv 4) (pa_cons (pv 5) pa_nil))))) (pss_one (ps_ret (pv 5))) pss_nil)))
    (pss_one (ps_ret pe_int))))), ?_⟩
    refine ⟨_, rfl, u, _, rfl, tu, rfl, _, _, rfl, _, _, rfl, _, _, rfl, rfl, ?_⟩
    refine ⟨_, rfl, r, rs, rfl, lr, k1, k2, fun sp H1 s1 hsp lsp => ?_⟩
    obtain ⟨xs, ex, al⟩ := id lsp
    have ll := al.len
    refine ⟨fun σ H' => Same H H' ∧ ∀ k, 1 ≤ k → k ≤ (stepsR rs).length → ¬ RngP G Ca (stepsR rs) k, ?_, ?_⟩
    · refine ⟨_, rfl, sp, xs, rfl, .inl (SqL.of ex), _, _, rfl, rfl, _, _, rfl, ⟨by omega, by omega, by omega, by omega⟩, ?_⟩
      refine for_range (lo := 1) (n := ((xs.length : Int) + 1 - 1).toNat) (fun i σ H' => ∃ o5, σ = [some (.ref u), some (.ref r), some (.ref g), some (.ref c), some (.ref sp), o5] ∧ Same H H' ∧ Same H1 H' ∧ ∀ k, 1 ≤ k → k ≤ i → ¬ RngP G Ca (stepsR rs) k) ⟨_, rfl, s1, Same.refl _, fun k h1 h2 => by omega⟩ ?_ ?_
      · rintro i σ H2 hi ⟨o5, rfl, s2, s12, no⟩
        have hi2 : i < (stepsR rs).length := by omega
        refine ⟨_, rfl, _, rfl, _, rfl, u, sp, rs, G, Ca, stepsR rs, 1 + i, rfl, td.same s2, nG, nC, lsp.same s12, nS, lS, by omega, fun b H3 s3 hb => ⟨_, rfl, ?_⟩⟩
        cases b with
        | true => exact iteT ⟨_, rfl, q _ _ (s2.trans s3) (.inl ⟨1 + i, by omega, by omega, by omega, hb.mp rfl, fun k h1 h2 => no k h1 (by omega)⟩)⟩
        | false =>
          refine iteF ⟨_, rfl, s2.trans s3, s12.trans s3, fun k h1 h2 z => ?_⟩
          by_cases c : k ≤ i
          · exact no k h1 c z
          · obtain rfl : k = 1 + i := by omega
            exact nomatch hb.mpr z
      · rintro σ H2 ⟨o5, rfl, s2, _, no⟩
        exact ⟨s2, fun k h1 h2 => no k h1 (by omega)⟩
    rintro σ H2 ⟨s2, no⟩
    exact q 99 _ s2 (.inr ⟨rfl, no⟩)
end
end R0

/-! rings: the circles as the law tells them -/
namespace R0
open PySem PySem.Spec PyProof.Rows L2 Hb St Sq Ow En Zp RZ Rd Xb Da Wa Tn Rg Dc Mr Ec Su Lz
theorem nxt_get {l : List Stp} {i : Nat} (hi : i < l.length) : (nxt l)[i]? = some (l.getD i d0, if i + 1 < l.length then l.getD (i + 1) d0 else l.getD 0 d0) := by
  cases l with
  | nil => cases hi
  | cons a r =>
    unfold nxt
    rw [List.getElem?_zip_eq_some]
    refine ⟨?_, ?_⟩
    · rw [List.getD_eq_getElem?_getD, List.getElem?_eq_getElem hi]; rfl
    · show (r ++ [a])[i]? = some (if i + 1 < (a :: r).length then (a :: r).getD (i + 1) d0 else (a :: r).getD 0 d0)
      have hi : i < r.length + 1 := hi
      by_cases c : i + 1 < (a :: r).length
      · have c' : i < r.length := by simpa using c
        rw [if_pos c, List.getElem?_append_left c', List.getD_eq_getElem?_getD, List.getElem?_cons_succ, List.getElem?_eq_getElem c']; rfl
      · have c' : i = r.length := by have : ¬ i + 1 < r.length + 1 := c; omega
        rw [if_neg c, c', List.getElem?_append_right (Nat.le_refl _), Nat.sub_self]; rfl
theorem nxt_len (l : List Stp) : (nxt l).length = l.length := by
  unfold nxt
  rw [List.length_zip, List.length_append, List.length_drop, List.length_take]
  omega
theorem mem_prv (l : List Stp) (p : Stp × Stp) : p ∈ nxt l ↔ ∃ i, i < l.length ∧ p = (prvI l i, l.getD i d0) := by
  constructor
  · intro h
    obtain ⟨i, e⟩ := List.getElem?_of_mem h
    have hi : i < l.length := by rw [← nxt_len l]; exact (List.getElem?_eq_some_iff.mp e).1
    rw [nxt_get hi] at e
    cases e
    by_cases c : i + 1 < l.length
    · refine ⟨i + 1, c, ?_⟩
      rw [if_pos c]
      unfold prvI
      rw [if_neg (Nat.succ_ne_zero i)]; rfl
    · refine ⟨0, by omega, ?_⟩
      rw [if_neg c]
      unfold prvI
      rw [if_pos rfl, show i = l.length - 1 by omega]
  · rintro ⟨i, hi, rfl⟩
    unfold prvI
    by_cases c : i = 0
    · subst c
      rw [if_pos rfl]
      have := nxt_get (l := l) (i := l.length - 1) (by omega)
      rw [if_neg (by omega)] at this
      exact List.mem_iff_getElem?.mpr ⟨_, this⟩
    · rw [if_neg c]
      have := nxt_get (l := l) (i := i - 1) (by omega)
      rw [show i - 1 + 1 = i by omega, if_pos hi] at this
      exact List.mem_iff_getElem?.mpr ⟨_, this⟩
/-- joins go between rooms -/
structure RX (R : RD) : Prop where
  g : ∀ j ∈ R.gongs, j.1.1 ≠ j.2.1
  c : ∀ j ∈ R.calls, j.1.1 ≠ j.2.1
theorem way_two {R : RD} (x : RX R) (a b : Stp) : wayI R.gongs R.calls a b = 2 ↔ aheadB R a b = true := by
  unfold wayI aheadB
  rw [Bool.or_eq_true, Bool.and_eq_true, decide_eq_true_eq, decide_eq_true_eq, decide_eq_true_eq]
  by_cases c : a.1 = b.1
  · rw [if_pos c]
    have nc : (a, b) ∉ R.calls := fun h => x.c _ h c
    by_cases c2 : a.2 < b.2
    · rw [if_pos c2]; simp [c, c2]
    · rw [if_neg c2]; simp [c, c2, nc]
  · rw [if_neg c]
    by_cases c2 : (a, b) ∈ R.calls
    · rw [if_pos c2]; simp [c2]
    · rw [if_neg c2]
      by_cases c3 : (a, b) ∈ R.gongs ∨ (b, a) ∈ R.gongs
      · rw [if_pos c3]; simp [c, c2]
      · rw [if_neg c3]; simp [c, c2]
theorem way_pos {R : RD} (x : RX R) (a b : Stp) : (0 < wayI R.gongs R.calls a b ↔ leadB R a b = true) ∧ (wayI R.gongs R.calls a b ≠ 0 ↔ leadB R a b = true) := by
  have h2 := way_two x a b
  unfold leadB
  rw [Bool.or_eq_true, ← h2, Bool.or_eq_true, decide_eq_true_eq, decide_eq_true_eq]
  unfold wayI
  by_cases c : a.1 = b.1
  · rw [if_pos c]
    have nc : (a, b) ∉ R.gongs := fun h => x.g _ h c
    have nd : (b, a) ∉ R.gongs := fun h => x.g _ h c.symm
    by_cases c2 : a.2 < b.2
    · rw [if_pos c2]; simp
    · rw [if_neg c2]; simp [nc, nd]
  · rw [if_neg c]
    by_cases c2 : (a, b) ∈ R.calls
    · rw [if_pos c2]; simp
    · rw [if_neg c2]
      by_cases c3 : (a, b) ∈ R.gongs ∨ (b, a) ∈ R.gongs
      · rw [if_pos c3]; simp [c3]
      · rw [if_neg c3]; simp [c3]
/-- a ring of steps -/
structure RingP (R : RD) (l : List Stp) : Prop where
  nd : l.Nodup
  le : ∀ p ∈ nxt l, leadB R p.1 p.2 = true
  ah : ∃ p ∈ nxt l, aheadB R p.1 p.2 = true
theorem ring_iff {R : RD} (x : RX R) (l : List Stp) : ringB R.gongs R.calls l = true ↔ RingP R l := by
  unfold ringB waysF
  rw [Bool.and_eq_true, Bool.and_eq_true, decide_eq_true_eq, Bool.not_eq_true', List.any_map, List.any_map, List.any_eq_true, List.any_eq_false]
  constructor
  · rintro ⟨h1, h2, i, hi, h3⟩
    refine ⟨h1, fun p hp => ?_, _, (mem_prv l _).mpr ⟨i, List.mem_range.mp hi, rfl⟩, (way_two x _ _).mp (by simpa using h3)⟩
    obtain ⟨i, hi, rfl⟩ := (mem_prv l p).mp hp
    exact (way_pos x _ _).2.mp fun e => h2 i (List.mem_range.mpr hi) (by simpa using e)
  · rintro ⟨h1, h2, p, hp, h3⟩
    obtain ⟨i, hi, rfl⟩ := (mem_prv l p).mp hp
    refine ⟨h1, fun i hi e => ?_, i, List.mem_range.mpr hi, by simpa using (way_two x _ _).mpr h3⟩
    exact (way_pos x _ _).2.mpr (h2 _ ((mem_prv l _).mpr ⟨i, List.mem_range.mp hi, rfl⟩)) (by simpa using e)
theorem stOf_D (l : List Stp) : (l.map stD).map stOf = l := by
  rw [List.map_map]
  exact List.map_id'' (fun _ => rfl) l
theorem lookup_many {R : RD} (nd : (R.rooms.map (·.1)).Nodup) {r : Rm} (hr : r ∈ R.rooms) : (manyR R).lookup r.1 = some (r.2.length : Int) := by
  unfold manyR
  generalize R.rooms = rs at nd hr
  induction rs with
  | nil => cases hr
  | cons a l ih =>
    obtain ⟨n1, n2⟩ := List.nodup_cons.mp nd
    rw [List.map_cons, List.lookup_cons]
    rcases List.mem_cons.mp hr with rfl | h
    · rw [beq_self_eq_true]
    · have ne : ¬ r.1 = a.1 := fun e => n1 (List.mem_map.mpr ⟨r, h, e⟩)
      rw [show (r.1 == a.1) = false from by simpa using ne]
      exact ih n2 h
theorem st_ok {R : RD} (nR : RNm R) (nd : (R.rooms.map (·.1)).Nodup) {s : Stp} (hs : s ∈ stepsR R.rooms) : stB (manyR R) (stD s) = true := by
  unfold stepsR at hs
  obtain ⟨r, hr, h⟩ := List.mem_flatMap.mp hs
  obtain ⟨i, hi, rfl⟩ := List.mem_map.mp h
  have hi := List.mem_range.mp hi
  have nm := (nR.r r hr).1
  have nb : nmB r.1 = true := by
    unfold nmB
    rw [nm_ascii nm, nm_alpha nm, nm_lower nm, decide_eq_true nm.2.1]; rfl
  show stB (manyR R) (.tuple [.str r.1, .int ((i : Int) + 1)]) = true
  rw [st_yes nb (lookup_many nd hr)]
  show (cntD (.int ((i : Int) + 1)) && decide ((i : Int) + 1 ≤ (r.2.length : Int))) = true
  rw [decide_eq_true (show (i : Int) + 1 ≤ (r.2.length : Int) by omega)]
  show (decide _ && true) = true
  rw [decide_eq_true (by omega)]; rfl
theorem circ_iff {R : RD} (nR : RNm R) (nd : (R.rooms.map (·.1)).Nodup) {l : List Stp} (hl : ∀ s ∈ l, s ∈ stepsR R.rooms) : circB R (.tuple (l.map stD)) = true ↔ RingP R l := by
  have al : (l.map stD).all (stB (manyR R)) = true := by
    rw [List.all_eq_true]
    intro d hd
    obtain ⟨s, hs, rfl⟩ := List.mem_map.mp hd
    exact st_ok nR nd (hl s hs)
  have e : circB R (.tuple (l.map stD)) = ((!(l.map stD).isEmpty && ((l.map stD).all (stB (manyR R)) && decide (((l.map stD).map stOf).Nodup))) && ((nxt ((l.map stD).map stOf)).all (fun p => leadB R p.1 p.2) && (nxt ((l.map stD).map stOf)).any (fun p => aheadB R p.1 p.2))) := rfl
  rw [e, al, stOf_D, Bool.true_and, Bool.and_eq_true, Bool.and_eq_true, Bool.and_eq_true, decide_eq_true_eq, List.all_eq_true, List.any_eq_true]
  constructor
  · rintro ⟨⟨_, h1⟩, h2, h3⟩
    exact ⟨h1, h2, h3⟩
  · rintro ⟨h1, h2, h3⟩
    refine ⟨⟨?_, h1⟩, h2, h3⟩
    cases l with
    | nil => obtain ⟨p, hp, _⟩ := h3; cases hp
    | cons _ _ => rfl
theorem ring_circ {R : RD} (x : RX R) (nR : RNm R) (nd : (R.rooms.map (·.1)).Nodup) {l : List Stp} (hl : ∀ s ∈ l, s ∈ stepsR R.rooms) : circB R (.tuple (l.map stD)) = ringB R.gongs R.calls l := by
  rw [Bool.eq_iff_iff, circ_iff nR nd hl, ring_iff x]
theorem RingP.turn {R : RD} {l : List Stp} (h : RingP R l) : RingP R (l.drop 1 ++ l.take 1) := by
  cases l with
  | nil => exact h
  | cons a r =>
    show RingP R (r ++ [a])
    have mm : ∀ p, p ∈ nxt (r ++ [a]) ↔ p ∈ nxt (a :: r) := fun p => by
      cases r with
      | nil => exact Iff.rfl
      | cons b r =>
        show p ∈ (b :: r ++ [a]).zip (r ++ [a] ++ [b]) ↔ p ∈ (a :: b :: r).zip (b :: r ++ [a])
        rw [List.zip_append (by simp)]
        show _ ↔ p ∈ (a, b) :: (b :: r).zip (r ++ [a])
        rw [List.mem_append, List.mem_cons, or_comm]
        show (p ∈ [(a, b)] ∨ _) ↔ _
        rw [List.mem_singleton]
    refine ⟨?_, fun p hp => h.le p ((mm p).mp hp), let ⟨p, hp, e⟩ := h.ah; ⟨p, (mm p).mpr hp, e⟩⟩
    obtain ⟨n1, n2⟩ := List.nodup_cons.mp h.nd
    rw [List.nodup_append]
    exact ⟨n2, by simp, fun x hx y hy => by rw [List.mem_singleton.mp hy]; exact fun z => n1 (z ▸ hx)⟩
theorem RingP.dup {R : RD} {l : List Stp} (hl : l ≠ []) : ¬ RingP R (l ++ l.take 1) := fun h => by
  cases l with
  | nil => exact hl rfl
  | cons a r =>
    have := h.nd
    rw [List.nodup_append] at this
    exact this.2.2 a (by simp) a (by simp) rfl
theorem lead_mem {R : RD} {a b : Stp} : b ∈ leadsF R a ↔ b ∈ stepsR R.rooms ∧ leadB R a b = true := List.mem_filter
theorem road_ring {R : RD} {a b : Stp} {rs : List Stp} (hp : PrC R a b) (h : IsRoad (leadsF R) b a rs) : RingP R rs ∧ (∀ s ∈ rs, s ∈ stepsR R.rooms) ∧ rs ≠ [] := by
  obtain ⟨N, el, d, ea⟩ := h.ex
  have e0 : rs[0]? = some b := by
    have l0 : 0 < rs.length := by omega
    have := h.at_ 0 _ (List.getElem?_eq_getElem l0)
    rw [List.getElem?_eq_getElem l0]
    exact congrArg some (show b = rs[0] from this.1).symm
  have gd : ∀ {i x}, rs[i]? = some x → rs.getD i d0 = x := fun e => by rw [List.getD_eq_getElem?_getD, e]; rfl
  have last : (a, b) ∈ nxt rs := by
    have := nxt_get (l := rs) (i := N) (by omega)
    rw [if_neg (by omega), gd ea, gd e0] at this
    exact List.mem_iff_getElem?.mpr ⟨_, this⟩
  refine ⟨⟨h.nodup, fun p hpp => ?_, _, last, hp.2.2⟩, fun s hs => ?_, fun z => by rw [z] at el; cases el⟩
  · obtain ⟨i, e⟩ := List.getElem?_of_mem hpp
    have hi : i < rs.length := by rw [← nxt_len rs]; exact (List.getElem?_eq_some_iff.mp e).1
    rw [nxt_get hi] at e
    cases e
    by_cases c : i + 1 < rs.length
    · rw [if_pos c]
      have := h.step i _ _ (List.getElem?_eq_getElem hi) (List.getElem?_eq_getElem c)
      rw [gd (List.getElem?_eq_getElem hi), gd (List.getElem?_eq_getElem c)]
      exact (lead_mem.mp this).2
    · rw [if_neg c]
      obtain rfl : i = N := by omega
      rw [gd ea, gd e0]
      exact lead_ahead hp.2.2
  · obtain ⟨i, e⟩ := List.getElem?_of_mem hs
    exact wn_in (fun s _ t ht => (lead_mem.mp ht).1) hp.2.1 (h.at_ i s e).1
/-! ### the fewest -/
theorem rcn_wn {R : RD} (x : RX R) {f : Stp} : ∀ {n : Nat} {p : Stp × Bool}, Rcn R.gongs R.calls (stepsR R.rooms) f n p → Wn (leadsF R) n f p.1
  | 0, p, h => by rw [show p = _ from h]; exact rfl
  | n + 1, p, ⟨q, h, k⟩ => ⟨q.1, rcn_wn x h, lead_mem.mpr ⟨k.1, (way_pos x _ _).1.mp k.2.1⟩⟩
theorem wn_rcn {R : RD} (x : RX R) {f : Stp} : ∀ {n : Nat} {b : Stp}, Wn (leadsF R) n f b → ∃ k, Rcn R.gongs R.calls (stepsR R.rooms) f n (b, k)
  | 0, b, h => ⟨false, by rw [show f = b from h]; exact rfl⟩
  | n + 1, b, ⟨c, h, m⟩ => by
    obtain ⟨k, hk⟩ := wn_rcn x h
    obtain ⟨m1, m2⟩ := lead_mem.mp m
    exact ⟨k || decide (wayI R.gongs R.calls c b = 2), (c, k), hk, m1, (way_pos x _ _).1.mpr m2, rfl⟩
theorem rcn_ahead {R : RD} (x : RX R) {f : Stp} (hf : f ∈ stepsR R.rooms) : ∀ {n : Nat} {z : Stp}, Rcn R.gongs R.calls (stepsR R.rooms) f n (z, true) → ∃ i j a b, i + 1 + j = n ∧ Wn (leadsF R) i f a ∧ PrC R a b ∧ Wn (leadsF R) j b z
  | 0, z, h => by cases h
  | n + 1, z, ⟨⟨q, k⟩, h, m1, m2, m3⟩ => by
    cases k with
    | true =>
      obtain ⟨i, j, a, b, e, w1, p, w2⟩ := rcn_ahead x hf h
      exact ⟨i, j + 1, a, b, by omega, w1, p, _, w2, lead_mem.mpr ⟨m1, (way_pos x _ _).1.mp m2⟩⟩
    | false =>
      have m3 : true = (false || decide (wayI R.gongs R.calls q z = 2)) := m3
      rw [Bool.false_or] at m3
      exact ⟨n, 0, q, z, by omega, rcn_wn x h, ⟨h.mem hf, m1, (way_two x _ _).mp (of_decide_eq_true m3.symm)⟩, rfl⟩
theorem few_len {R : RD} (x : RX R) {rs : List Stp} (h : Least (leadsF R) (PrC R) (some rs)) {n : Int} (fw : FewIs R.gongs R.calls (stepsR R.rooms) n) : n = rs.length := by
  obtain ⟨⟨a, b, p, r⟩, mn⟩ := h
  obtain ⟨N, el, d, _⟩ := r.ex
  obtain ⟨rg, inS, ne⟩ := road_ring p r
  have rn : RngP R.gongs R.calls (stepsR R.rooms) rs.length := by
    obtain ⟨k, hk⟩ := wn_rcn x d.1
    refine ⟨b, p.2.1, ?_⟩
    rw [el]
    refine ⟨(a, k), hk, p.2.1, (way_pos x _ _).1.mpr (lead_ahead p.2.2), ?_⟩
    show true = (k || decide (wayI R.gongs R.calls a b = 2))
    rw [decide_eq_true ((way_two x _ _).mpr p.2.2), Bool.or_true]
  have low : ∀ k, RngP R.gongs R.calls (stepsR R.rooms) k → rs.length ≤ k := fun k ⟨f, hf, hk⟩ => by
    obtain ⟨i, j, u, v, e, w1, q, w2⟩ := rcn_ahead x hf hk
    have := mn u v q (j + i) (wn_add w2 w1)
    omega
  have le := nd_leG rs _ rg.nd inS
  rcases fw with ⟨m, e, h1, h2, h3, h4⟩ | ⟨_, h⟩
  · have k1 := low m h3
    have k2 : ¬ rs.length < m := fun z => h4 _ (by omega) z rn
    omega
  · exact (h _ (by omega) le rn).elim
end R0

namespace R0
open PySem PySem.Spec PyProof.Rows L2 Hb St Sq Ow En Zp RZ Rd Xb Da Wa Tn Rg Dc Mr Ec Su Lz
theorem RLaw.half {rs : List Rm} {gs cs : List Jn} (h : RLaw rs gs cs) : RHalf rs := ⟨h.nm, h.nr, h.tl, h.ne, h.tot⟩
theorem nms3_nd : ∀ ns ∈ nms3, ns.Nodup := by decide +kernel
theorem RHalf.nd {rs : List Rm} (h : RHalf rs) : (rs.map (·.1)).Nodup := by
  obtain ⟨ns, hn, e⟩ := h.nm
  rw [e]
  exact (List.take_sublist _ _).nodup (nms3_nd ns hn)
def nms7 : List Str := [Str.ofString "a", Str.ofString "b", Str.ofString "c", Str.ofString "zoo", Str.ofString "hall", Str.ofString "abcdefgh", Str.ofString "abcdefgi"]
theorem nms3_7 : ∀ ns ∈ nms3, ∀ n ∈ ns, n ∈ nms7 := by decide +kernel
theorem RHalf.in7 {rs : List Rm} (h : RHalf rs) : ∀ r ∈ rs, r.1 ∈ nms7 := by
  obtain ⟨ns, hn, e⟩ := h.nm
  intro r hr
  have : r.1 ∈ rs.map (·.1) := List.mem_map_of_mem hr
  rw [e] at this
  exact nms3_7 ns hn _ (List.mem_of_mem_take this)
def noneS : Str := Str.ofString "none"
theorem none7 : noneS ∉ nms7 := by decide +kernel
theorem nd_in {rs : List Rm} (nd : (rs.map (·.1)).Nodup) {r r' : Rm} (h : r ∈ rs) (h' : r' ∈ rs) (e : r.1 = r'.1) : r = r' := by
  induction rs with
  | nil => cases h
  | cons a rs ih =>
    rw [List.map_cons] at nd
    obtain ⟨n1, n2⟩ := List.nodup_cons.mp nd
    rcases List.mem_cons.mp h with h1 | h1
    · rcases List.mem_cons.mp h' with h2 | h2
      · rw [h1, h2]
      · exact absurd (by rw [← h1, e]; exact List.mem_map_of_mem h2) n1
    · rcases List.mem_cons.mp h' with h2 | h2
      · exact absurd (by rw [← h2, ← e]; exact List.mem_map_of_mem h1) n1
      · exact ih n2 h1 h2
theorem lk_hit {rs : List Rm} (nd : (rs.map (·.1)).Nodup) {r : Rm} (h : r ∈ rs) : rs.lookup r.1 = some r.2 := by
  induction rs with
  | nil => cases h
  | cons a rs ih =>
    have nd0 := nd
    rw [List.map_cons] at nd
    obtain ⟨n1, n2⟩ := List.nodup_cons.mp nd
    rw [List.lookup_cons]
    by_cases e : r.1 = a.1
    · obtain rfl := nd_in nd0 h (List.mem_cons_self ..) e
      simp
    · rw [beq_eq_false_iff_ne.mpr e]
      rcases List.mem_cons.mp h with rfl | h
      · exact absurd rfl e
      · exact ih n2 h
theorem lk_miss {rs : List Rm} {x : Str} (h : ∀ r ∈ rs, r.1 ≠ x) : rs.lookup x = none := by
  induction rs with
  | nil => rfl
  | cons a rs ih =>
    rw [List.lookup_cons, beq_eq_false_iff_ne.mpr (fun e => h a (List.mem_cons_self ..) e.symm)]
    exact ih fun r hr => h r (List.mem_cons_of_mem _ hr)
theorem nms7_nm : ∀ n ∈ nms7, nmB n = true ∧ IsNm n := by
  unfold IsNm
  decide +kernel
theorem lots7_nm : ∀ l ∈ lots7, l.length ≤ 3 ∧ ∀ x ∈ l, IsNm x := by
  unfold IsNm
  decide +kernel
/-! ### what the law hands -/
theorem lots7_ok : ∀ t ∈ lots7, lotD (lD t) = true := by decide +kernel
theorem taleD_law {t : Tale} (h : ∀ a ∈ t, a ∈ lots7) : taleD (tD t) = true := by
  show (t.map lD).all lotD = true
  rw [List.all_map, List.all_eq_true]
  exact fun a ha => lots7_ok a (h a ha)
theorem RHalf.ar {rs : List Rm} (h : RHalf rs) : arD (.list (rs.map rmD)) = true := by
  have e : (rs.map rmD).map nmOf = rs.map (·.1) := by rw [List.map_map]; rfl
  show (true && (decide (1 ≤ (rs.map rmD).length ∧ (rs.map rmD).length ≤ 3) && ((rs.map rmD).all rmlD && (decide ((rs.map rmD).map nmOf).Nodup && (rs.map rmD).all fun e => taleD (tlOf e))))) = true
  rw [List.length_map, decide_eq_true h.nr, e, decide_eq_true h.nd, List.all_map, List.all_map]
  have h1 : rs.all (rmlD ∘ rmD) = true := List.all_eq_true.mpr fun r hr => (nms7_nm _ (h.in7 r hr)).1
  have h2 : rs.all ((fun e => taleD (tlOf e)) ∘ rmD) = true := List.all_eq_true.mpr fun r hr => taleD_law (h.tl r hr).2
  rw [h1, h2]; rfl
theorem many_rm (rs : List Rm) : manyD (.list (rs.map rmD)) = rs.map fun r => (r.1, (r.2.length : Int)) := by
  show (rs.map rmD).map _ = _
  rw [List.map_map]
  refine List.map_congr_left fun r _ => ?_
  show (r.1, (((r.2.map lD).length : Nat) : Int)) = _
  rw [List.length_map]
theorem lk_len {rs : List Rm} (x : Str) : (rs.map fun r => (r.1, (r.2.length : Int))).lookup x = (rs.lookup x).map fun t => (t.length : Int) := by
  induction rs with
  | nil => rfl
  | cons a rs ih =>
    rw [List.map_cons, List.lookup_cons, List.lookup_cons]
    cases x == a.1 with
    | true => rfl
    | false => exact ih
theorem mem_stepsL {rs : List Rm} {s : Stp} (h : s ∈ stepsR rs) : ∃ r ∈ rs, s.1 = r.1 ∧ 1 ≤ s.2 ∧ s.2 ≤ r.2.length := by
  obtain ⟨r, hr, hs⟩ := List.mem_flatMap.mp h
  obtain ⟨i, hi, rfl⟩ := List.mem_map.mp hs
  have := List.mem_range.mp hi
  exact ⟨r, hr, rfl, by show 1 ≤ (i : Int) + 1; omega, by show (i : Int) + 1 ≤ _; omega⟩
theorem stB_law {rs : List Rm} (h : RHalf rs) {s : Stp} (hs : s ∈ stepsR rs) : stB (manyD (.list (rs.map rmD))) (stD s) = true := by
  obtain ⟨r, hr, e, i1, i2⟩ := mem_stepsL hs
  rw [many_rm]
  show (nmB s.1 && (match (rs.map fun r => (r.1, (r.2.length : Int))).lookup s.1 with
    | some n => decide (1 ≤ s.2) && decide (s.2 ≤ n)
    | none => false)) = true
  rw [lk_len, e, lk_hit h.nd hr, (nms7_nm _ (h.in7 r hr)).1]
  show (true && (decide (1 ≤ s.2) && decide (s.2 ≤ (r.2.length : Int)))) = true
  rw [decide_eq_true i1, decide_eq_true i2]; rfl
theorem jnB_law {rs : List Rm} (h : RHalf rs) {j : Jn} (h1 : j.1 ∈ stepsR rs) (h2 : j.2 ∈ stepsR rs) (ne : j.1.1 ≠ j.2.1) : jnB (manyD (.list (rs.map rmD))) (jnD j) = true := by
  show (stB _ (stD j.1) && (stB _ (stD j.2) && decide (j.1.1 ≠ j.2.1))) = true
  rw [stB_law h h1, stB_law h h2, decide_eq_true ne]; rfl
theorem jsB_law {rs : List Rm} (h : RHalf rs) {gs : List Jn} (g : ∀ j ∈ gs, j.1 ∈ stepsR rs ∧ j.2 ∈ stepsR rs ∧ j.1.1 ≠ j.2.1) : jsB (.list (rs.map rmD)) (.list (gs.map jnD)) = true := by
  show (true && (gs.map jnD).all (jnB (manyD (.list (rs.map rmD))))) = true
  rw [List.all_map]
  have : gs.all (jnB (manyD (.list (rs.map rmD))) ∘ jnD) = true := List.all_eq_true.mpr fun j hj => jnB_law h (g j hj).1 (g j hj).2.1 (g j hj).2.2
  rw [this]; rfl
theorem arT (x : List PyData) : arD (.tuple x) = arD (.list x) := rfl
theorem jsT1 (x : List PyData) (d : PyData) : jsB (.tuple x) d = jsB (.list x) d := rfl
theorem jsT2 (d : PyData) (x : List PyData) : jsB d (.tuple x) = jsB d (.list x) := rfl
theorem err_law {rs : List Rm} {gs cs : List Jn} (h : RLaw rs gs cs) : rmErr (.list (rs.map rmD)) (.list (gs.map jnD)) (.list (cs.map jnD)) = none := by
  unfold rmErr
  rw [h.half.ar, jsB_law h.half h.gj, jsB_law h.half h.cj]; rfl
theorem er_0 {dr dg dc : PyData} (h : arD dr = false) : rmErr dr dg dc = some 0 := by
  unfold rmErr
  rw [if_pos h]
theorem er_1 {dr dg dc : PyData} (h : arD dr = true) (h1 : jsB dr dg = false) : rmErr dr dg dc = some 1 := by
  unfold rmErr
  rw [h, if_neg (by decide), if_pos h1]
theorem er_2 {dr dg dc : PyData} (h : arD dr = true) (h1 : jsB dr dg = true) (h2 : jsB dr dc = false) : rmErr dr dg dc = some 2 := by
  unfold rmErr
  rw [h, h1, if_neg (by decide), if_neg (by decide), if_pos h2]
theorem sm_rms {rs : List Rm} (h : RHalf rs) : SmR (.list (rs.map rmD)) := fun e he => by
  obtain ⟨r, hr, rfl⟩ := List.mem_map.mp he
  refine smE_rm (nms7_nm _ (h.in7 r hr)).1 (by have := (h.tl r hr).1; omega) fun l hl => ?_
  have a := (h.tl r hr).2 l hl
  have b := lots7_nm l a
  exact ⟨by omega, lots7_nmB l a⟩
where lots7_nmB : ∀ l ∈ lots7, ∀ x ∈ l, nmB x = true := by decide +kernel
theorem nm_of_step {rs : List Rm} (h : RHalf rs) {s : Stp} (hs : s ∈ stepsR rs) : nmB s.1 = true := by
  obtain ⟨r, hr, e, _⟩ := mem_stepsL hs
  rw [e]; exact (nms7_nm _ (h.in7 r hr)).1
theorem sm_jns {rs : List Rm} (h : RHalf rs) {gs : List Jn} (n : gs.length ≤ 1000) (g : ∀ j ∈ gs, j.1 ∈ stepsR rs ∧ j.2 ∈ stepsR rs ∧ j.1.1 ≠ j.2.1) : SmJs (.list (gs.map jnD)) :=
  ⟨by show (gs.map jnD).length ≤ 1000; rw [List.length_map]; exact n, fun e he => by
    obtain ⟨j, hj, rfl⟩ := List.mem_map.mp he
    exact smJ_jn (nm_of_step h (g j hj).1) (nm_of_step h (g j hj).2.1)⟩
theorem law_nm {rs : List Rm} {gs cs : List Jn} (h : RLaw rs gs cs) : RNm ⟨rs, gs, cs⟩ := by
  have st : ∀ s ∈ stepsR rs, IsNm s.1 := nm_step h.half.isn
  exact ⟨fun r hr => ⟨h.half.isn r hr, fun l hl => (lots7_nm l ((h.tl r hr).2 l hl)).2⟩, fun j hj => ⟨st _ (h.gj j hj).1, st _ (h.gj j hj).2.1⟩, fun j hj => ⟨st _ (h.cj j hj).1, st _ (h.cj j hj).2.1⟩⟩
theorem stepsR_nd {rs : List Rm} (nd : (rs.map (·.1)).Nodup) : (stepsR rs).Nodup := by
  induction rs with
  | nil => exact List.nodup_nil
  | cons a l ih =>
    obtain ⟨n1, n2⟩ := List.nodup_cons.mp nd
    have e : stepsR (a :: l) = ((List.range a.2.length).map fun i : Nat => (a.1, ((i : Nat) : Int) + 1)) ++ stepsR l := rfl
    rw [e, List.nodup_append]
    refine ⟨?_, ih n2, fun x hx y hy z => ?_⟩
    · show List.Pairwise _ _
      rw [List.pairwise_map]
      refine List.Pairwise.imp ?_ (List.nodup_range (n := a.2.length))
      intro i j hij z
      injection z with _ z
      exact hij (by omega)
    · obtain ⟨i, _, rfl⟩ := List.mem_map.mp hx
      obtain ⟨r, hr, e2, _⟩ := mem_stepsL hy
      rw [← z] at e2
      exact n1 (List.mem_map.mpr ⟨r, hr, e2.symm⟩)
theorem law_gr {rs : List Rm} {gs cs : List Jn} (h : RLaw rs gs cs) : RGr ⟨rs, gs, cs⟩ := ⟨law_nm h, by have := h.nr; show rs.length ≤ 10; omega, fun a ha => Nat.le_trans (h.tl a ha).1 (by decide), stepsR_nd h.half.nd⟩
theorem law_x {rs : List Rm} {gs cs : List Jn} (h : RLaw rs gs cs) : RX ⟨rs, gs, cs⟩ := ⟨fun j hj => (h.gj j hj).2.2, fun j hj => (h.cj j hj).2.2⟩
theorem law_in {rs : List Rm} {gs cs : List Jn} (h : RLaw rs gs cs) : RIn ⟨rs, gs, cs⟩ := ⟨h.half.nd, fun j hj => ⟨(h.gj j hj).1, (h.gj j hj).2.1⟩, fun j hj => ⟨(h.cj j hj).1, (h.cj j hj).2.1⟩⟩
theorem smS_st {s : Stp} (h : nmB s.1 = true) : SmS (stD s) := fun x hx => by
  have hx : x ∈ [PyData.str s.1, .int s.2] := hx
  simp only [List.mem_cons, List.not_mem_nil, or_false] at hx
  rcases hx with rfl | rfl
  · unfold nmB at h
    rw [Bool.and_eq_true, decide_eq_true_eq] at h
    exact Nat.le_trans h.1 (by decide)
  · trivial
end R0

namespace R0
open PySem PySem.Spec PyProof.Rows L2 Hb St Sq Ow En Zp RZ Rd Xb Da Wa Tn Rg Dc Mr Ec Su Lz
section
variable {P : Program} {w : World} {K : PySem.W.Frag} {mg : Str → Option Value} {base : Heap} {C CR eg ec : Addr}
theorem rd_mk {vr vg vc : V} {dr dg dc : PyData} {H : Hp} {Q : VK} {E : XK} (dvr : Dp K H vr dr) (dvg : Dp K H vg dg) (dvc : Dp K H vc dc) (smr : SmR dr) (smg : SmJs dg) (smc : SmJs dc) (er : rmErr dr dg dc = none)
    {x dx : Addr} (hx : H x = none) (hd : H dx = none) (ne : dx ≠ x) (q : ∀ H', Same H H' → RmAt K C H' x (itemsD dr) (itemsD dg) (itemsD dc) → Q .non H') :
    spInit K C CR (.ref x :: ([vr, vg, vc] ++ [])) (upd (upd H dx (.own x)) x (.ins C dx [])) Q E := by
  have s1 : Same H (upd (upd H dx (.own x)) x (.ins C dx [])) := (same_new hd (.own x)).trans (same_new (by rw [upd_ne ne.symm]; exact hx) _)
  refine ⟨x, dx, vr, vg, vc, dr, dg, dc, rfl, upd_same, dp_same s1 dvr, dp_same s1 dvg, dp_same s1 dvc, smr, smg, smc, fun no H' k r => q H' (fun b o e => ?_) r, fun k ek dd H' s e => by rw [er] at ek; cases ek⟩
  exact k b o (s1 b o e) (ne_of_none e hx)
theorem rd_ne0 {α : Type} [DecidableEq α] {f : α → PyData} {H : Hp} {Q : VK} {a t : Addr} {l : List α} (hl : ListAt K H a f l) (sh : SeqAt.shaped (.list (l.map f)) = true) (ht : H t = some (.lst [])) (q : Q (.bl (!decide (l = []))) H) : rNeD K (.ref a) (.ref t) H Q := by
  refine ⟨_, _, hl.dp, .lst (SqL.of ht) .nil, sh, (sh_lst (n := 0) (f := PyData.int) (l := []) fun _ h => nomatch h).ok (by decide), ?_⟩
  cases l with
  | nil => exact q
  | cons x r => exact q
theorem sh_wvs {rs : List Rm} (nd : (rs.map (·.1)).Nodup) (nm : ∀ s ∈ stepsR rs, IsNm s.1) {ws : List Wv} (h : ∀ W ∈ ws, IsWeave rs W) : SeqAt.shaped (.list (ws.map wvD)) = true := by
  refine Sh.ok (n := 4) (sh_lst fun W hW => ?_) (by decide)
  refine sh_tup fun l hl => sh_lv fun s hs => ?_
  exact nm s (((weave_ok nd (h W hW)).all s).mp ⟨l, hl, hs⟩)
theorem comes_iff {R : RD} (ri : RIn R) {ws : List Wv} (mw : ∀ W, W ∈ ws ↔ IsWeave R.rooms W ∧ fitsB W R.gongs R.calls = true) {o : Option (List Stp)} (lst : Least (leadsF R) (PrC R) o) : o = none ↔ ws ≠ [] := by
  constructor
  · rintro rfl
    obtain ⟨W, h1, h2⟩ := weave_exists ri lst
    exact List.ne_nil_of_mem ((mw W).mpr ⟨h1, h2⟩)
  · intro h
    obtain ⟨W, hW⟩ := List.exists_mem_of_ne_nil _ h
    obtain ⟨h1, h2⟩ := (mw W).mp hW
    cases o with
    | none => rfl
    | some rs =>
      obtain ⟨⟨a, b, p, r⟩, _⟩ := lst
      obtain ⟨N, _, d, _⟩ := r.ex
      exact (noc_of ri h1 h2 a b p N d.1).elim
theorem init_te {σ : L2.St} {i : Nat} {H : Hp} {a : Addr} {xs : List V} {Q : VK} (hi : σ[i]? = some (some (.ref a))) (ht : SqT K H a xs) (hn : xs ≠ []) (q : ∀ b H', Same H H' → SqT K H' b xs.dropLast → Q (.ref b) H') :
    tSl (rSlA K) (tVar i) tNoPart (tPart (tUn (rU fun i => V.int (-i)) (tC (V.int 1)))) σ H Q := by
  have lp : 0 < xs.length := by cases xs with | nil => exact (hn rfl).elim | cons _ _ => simp
  have sx : HT.sIx xs.length xs.length (some (-1)) = xs.length - 1 := by
    show (if (-1 : Int) < 0 then ((-1) + (xs.length : Int)).toNat else min (-1 : Int).toNat xs.length) = _
    rw [if_pos (by decide)]
    omega
  refine ⟨_, hi, 1, rfl, _, rfl, a, xs, rfl, ht, fun z => ?_, fun _ p hp => ?_⟩
  · have z := z.2
    rw [sx] at z
    omega
  · refine q p _ (same_new hp _) (SqT.of ?_)
    rw [upd_same]
    have : cutV xs none (some (-1)) = xs.dropLast := by
      unfold cutV
      rw [sx]
      show (xs.drop 0).take (xs.length - 1 - 0) = _
      rw [List.drop_zero, Nat.sub_zero, List.dropLast_eq_take]
    rw [this]
theorem dup_te {σ : L2.St} {i : Nat} {H : Hp} {a : Addr} {xs : List V} {Q : VK} (hi : σ[i]? = some (some (.ref a))) (ht : SqT K H a xs) (hn : xs ≠ []) (hl : xs.length ≤ 1000) (q : ∀ b H', Same H H' → SqT K H' b (xs ++ xs.take 1) → Q (.ref b) H') :
    tOp (rCatA K) (tVar i) (tSl (rSlA K) (tVar i) tNoPart (tPart (tC (.int 1)))) σ H Q := by
  cases xs with
  | nil => exact (hn rfl).elim
  | cons x r =>
    have n2 : ∀ n : Nat, HT.sIx (n + 1) (n + 1) (some 1) = 1 := fun n => by simp [HT.sIx]
    have c2 : cutV (x :: r) none (some 1) = [x] := by
      unfold cutV
      rw [List.length_cons, n2]
      rfl
    have fin : ∀ b H3, Same H H3 → SqT K H3 b [x] → rCatA K (.ref a) (.ref b) H3 Q := fun b H3 s3 hb => by
      have l0 : r.length + 1 ≤ 1000 := hl
      refine ⟨a, b, x :: r, [x], rfl, rfl, tupFix (Fix.of s3) ht, hb, by rw [sizeLine_eq]; simp; omega, (fun e => nomatch e), (fun _ e => nomatch e), fun _ _ u hu => ?_⟩
      exact q u _ (s3.trans (same_new hu _)) (SqT.of upd_same)
    refine ⟨_, hi, _, hi, _, rfl, a, _, rfl, ht, fun z => ?_, fun _ u hu => ?_⟩
    · rw [List.length_cons, n2] at z
      have : r = [] := List.length_eq_zero_iff.mp (by omega)
      subst this
      exact fin a _ (Same.refl _) ht
    · rw [c2]
      exact fin u _ (same_new hu _) (SqT.of upd_same)
theorem all2_last {α β : Type} {R : α → β → Prop} : ∀ {xs : List α} {l : List β}, All2 R xs l → All2 R xs.dropLast l.dropLast
  | _, _, .nil => .nil
  | _, _, .cons h .nil => .nil
  | _, _, .cons h (.cons h2 t) => .cons h (all2_last (.cons h2 t))
theorem circ_unl {R : RD} {d : PyData} (h : unlB (manyR R) d = false) : circB R d = false := by
  unfold circB
  rw [h]; rfl
theorem unl_all {ms : List (Str × Int)} {ds : List PyData} (h : ds.all (stB ms) = false) : unlB ms (.tuple ds) = false := by
  show (!ds.isEmpty && (ds.all (stB ms) && decide ((ds.map stOf).Nodup))) = false
  rw [h, Bool.false_and, Bool.and_false]
theorem lookup_no {R : RD} {x : Str} (h : ∀ r ∈ R.rooms, r.1 ≠ x) : (manyR R).lookup x = none := by
  unfold manyR
  generalize R.rooms = rs at h
  induction rs with
  | nil => rfl
  | cons a l ih =>
    rw [List.map_cons, List.lookup_cons, show (x == a.1) = false from beq_eq_false_iff_ne.mpr fun e => h a List.mem_cons_self e.symm]
    exact ih fun r hr => h r (List.mem_cons_of_mem _ hr)
/-- what is no circle -/
structure BadC (R : RD) (d : PyData) : Prop where
  nl : noL d = true
  ln : (itemsD d).length < 64
  sm : ∀ x ∈ itemsD d, SmS x
  no : circB R d = false
theorem bad_none {R : RD} : BadC R .none := ⟨rfl, by decide, (fun _ h => nomatch h), rfl⟩
theorem bad_int {R : RD} (i : Int) : BadC R (.int i) := ⟨rfl, by show 0 < 64; decide, (fun _ h => nomatch h), rfl⟩
theorem bad_str {R : RD} (x : Str) : BadC R (.str x) := ⟨rfl, by show 0 < 64; decide, (fun _ h => nomatch h), rfl⟩
theorem bad_nil {R : RD} : BadC R (.tuple []) := ⟨rfl, by decide, (fun _ h => nomatch h), rfl⟩
theorem bad_pair {R : RD} : BadC R (.tuple [.str "a", .int 1]) := ⟨rfl, by decide, fun x h => by
  have h : x ∈ [PyData.str "a", .int 1] := h
  simp only [List.mem_cons, List.not_mem_nil, or_false] at h
  rcases h with rfl | rfl <;> trivial, rfl⟩
theorem bad_non1 {R : RD} : BadC R (.tuple [.none]) := ⟨rfl, by decide, fun x h => by
  have h : x ∈ [PyData.none] := h
  rw [List.mem_singleton.mp h]; trivial, rfl⟩
theorem bad_noroom {rs : List Rm} {gs cs : List Jn} (h : RLaw rs gs cs) : BadC ⟨rs, gs, cs⟩ (.tuple [.tuple [.str "none", .int 1]]) := by
  refine ⟨rfl, by decide, fun x hx => ?_, circ_unl (unl_all ?_)⟩
  · have hx : x ∈ [PyData.tuple [.str "none", .int 1]] := hx
    rw [List.mem_singleton.mp hx]
    exact smS_st (s := ("none", 1)) (by decide +kernel)
  · rw [List.all_cons, st_no (lookup_no fun r hr e => none7 (by rw [← show r.1 = noneS from e]; exact h.half.in7 r hr)), Bool.false_and]
theorem bad_one {rs : List Rm} {gs cs : List Jn} (h : RLaw rs gs cs) {s : Stp} (hs : s ∈ stepsR rs) : BadC ⟨rs, gs, cs⟩ (.tuple [stD s]) := by
  refine ⟨rfl, by show 1 < 64; decide, fun x hx => ?_, Bool.eq_false_iff.mpr fun z => ?_⟩
  · have hx : x ∈ [stD s] := hx
    rw [List.mem_singleton.mp hx]
    exact smS_st (nm_of_step h.half hs)
  · obtain ⟨p, hp, e⟩ := ((circ_iff (R := ⟨rs, gs, cs⟩) (l := [s]) (law_nm h) h.half.nd fun t ht => by rw [List.mem_singleton.mp ht]; exact hs).mp z).ah
    have hp : p ∈ [(s, s)] := hp
    rw [List.mem_singleton.mp hp] at e
    have := (way_two (law_x h) s s).mpr e
    unfold wayI at this
    rw [if_pos rfl, if_neg (by omega)] at this
    cases this
theorem bad_zero {rs : List Rm} {gs cs : List Jn} (h : RLaw rs gs cs) {s : Stp} (hs : s ∈ stepsR rs) : BadC ⟨rs, gs, cs⟩ (.tuple [.tuple [.str s.1, .int 0]]) := by
  obtain ⟨r, hr, e, _⟩ := mem_stepsL hs
  have nb := nm_of_step h.half hs
  refine ⟨rfl, by show 1 < 64; decide, fun x hx => ?_, circ_unl (unl_all ?_)⟩
  · have hx : x ∈ [PyData.tuple [.str s.1, .int 0]] := hx
    rw [List.mem_singleton.mp hx]
    exact smS_st (s := (s.1, 0)) nb
  · rw [List.all_cons, st_yes (nm_of_step h.half hs) (by rw [e]; exact lookup_many (R := ⟨rs, gs, cs⟩) h.half.nd hr)]
    rfl
abbrev s_law : Stmt := top 51
theorem sc_law : FnScope ["script", "deal", "turn", "told", "rooms", "gongs", "calls", "made", "found", "comes", "steps", "turned", "value", "part"] ["script"] (defScope s_law) := ⟨rfl, rfl, rfl, by decide +kernel, rfl, by decide +kernel, by decide +kernel⟩
def spLaw (K : PySem.W.Frag) : Sp := fun vs H Q _ => ∃ (a : Addr) (ns : List Int), vs = [.ref a] ∧ SqL K H a (ns.map V.int) ∧ ns.length ≤ 63 ∧ ∀ H', Q (.bl true) H'
theorem ok_law {f : Addr} {fd : FuncData} (F : Fun K "law" "law" s_law f fd) (C__law_deal : Cl P w K mg base "_law_deal" ["script", "base"] [] 1 (spDeal K)) (C__law_draw : Cl P w K mg base "_law_draw" ["deal", "bound"] [] 1 spDraw) (C__law_fewest : Cl P w K mg base "_law_fewest" ["told"] [] 3 (spFew K)) (C__law_is_ring : Cl P w K mg base "_law_is_ring" ["told", "value"] [] 2 (spRing K)) (C__law_pick : Cl P w K mg base "_law_pick" ["deal", "some"] [] 2 (spPick K)) (C__law_rooms : Cl P w K mg base "_law_rooms" ["deal", "most"] [] 4 (spRooms K)) (C__law_steps : Cl P w K mg base "_law_steps" ["rooms"] [] 1 (spSteps K)) (C__law_weaves : Cl P w K mg base "_law_weaves" ["rooms", "gongs", "calls"] [] 3 (spWeaves K)) (C_is_circle : Cl P w K mg base "is_circle" ["rooms", "value"] [] 5 (spIsC K C)) (K_is_circle : ClK P w K mg base "is_circle" ["rooms", "value"] 0 ["rooms", "value"] (fun _ zs => zs) 5 (spIsC K C)) (K_join_circle : ClK P w K mg base "join_circle" ["rooms"] 0 ["rooms"] (fun _ zs => zs) 4 (spCirc K C)) (M_Rooms : MkR P w K mg base C CR eg ec) (n_isinstance : mg "isinstance" = none) (n_len : mg "len" = none) (n_list : mg "list" = none) (n_range : mg "range" = none) (n_tuple : mg "tuple" = none) : FnOk P w K mg base CX0 7 f fd ["script"] (spLaw K) := by
  refine F.ok sc_law (fun vs H Q E h => ?_) (fun cdv A outer s H vs Q E hr h => ?_)
  · obtain ⟨_, _, rfl, _⟩ := h
    rfl
  · obtain ⟨a0, ns, rfl, hs, ln, q⟩ := h
    refine ⟨_, (pss_cons (ps_set (i := 1) sc_law.nd rfl (Or.inr rfl) (pe_use C__law_deal (hr.mono (by decide)) rfl (pa_cons (pv 0) (pa_cons pe_int pa_nil))))
    (Evl.pss_cut (ps_for PassesOwn.never rfl (pi_range1 (by rfl) n_range (pa_cons pe_int pa_nil)) (pg_name (i := 2) sc_law.nd rfl (Or.inl rfl))
      (pss_cons (ps_set (i := 3) sc_law.nd rfl (Or.inl rfl) (pe_use C__law_rooms (hr.mono (by decide)) rfl (pa_cons (pv 1) (pa_cons (pe_op op_sub pe_int (pv 2)) pa_nil))))
    (pss_cons (ps_asg (pv 3) (pg_tup rfl (pgs_cons (pg_name (i := 4) sc_law.nd rfl (Or.inl rfl)) (pgs_cons (pg_name (i := 5) sc_law.nd rfl (Or.inl rfl)) (pgs_cons (pg_name (i := 6) sc_law.nd rfl (Or.inl rfl)) pgs_nil)))))
    (pss_cons (ps_set (i := 7) sc_law.nd rfl (Or.inl rfl) (pe_mk3 M_Rooms (hr.mono (by decide)) (passes_call L2.takes0 fun _ _ _ _ h => h) rfl (pa_cons (pv 4) (pa_cons (pv 5) (pa_cons (pv 6) pa_nil)))))
    (pss_cons (ps_par (i := 8) (j := 9) (by rfl) sc_law.nd rfl rfl (by decide) rfl rfl (pa_cons (pe_useK0 K_join_circle (hr.mono (by decide)) rfl (pk_cons (pv 7) pk_nil)) (pa_cons (pe_cmpR (op_neD hr.units) (pe_use C__law_weaves (hr.mono (by decide)) rfl (pa_cons (pv 4) (pa_cons (pv 5) (pa_cons (pv 6) pa_nil)))) (pe_lst pa_nil) (nomark _)) pa_nil)) (by rfl))
    (Evl.pss_cut (ps_if (pt_cmpR op_ne (pe_cmpR op_isN (pv 8) pe_non (nomark _)) (pv 9) (nomark _)) (pss_one (ps_ret pe_bl)) pss_nil)
    (pss_cons (ps_set (i := 10) sc_law.nd rfl (Or.inr rfl) (pe_use C__law_steps (hr.mono (by decide)) rfl (pa_cons (pv 4) pa_nil)))
    (Evl.pss_cut (ps_if (pt_cmpR op_notN (pv 8) pe_non (nomark _)) (Evl.pss_cut (ps_if (PW.pt (pw_or (pt_not (pt_val (pe_callB call_isi (by rfl) n_isinstance (by decide +kernel) (pa_cons (pv 8) (pa_cons (pe_bltn (v := .ty "tuple") (by rfl) n_tuple (by decide +kernel) rfl) pa_nil))))) (pw_or (pt_not (pt_val (pe_use C__law_is_ring (hr.mono (by decide)) rfl (pa_cons (pv 3) (pa_cons (pv 8) pa_nil))))) (pw_or1 (pt_cmpR op_ne (pe_callB call_len_seq (by rfl) n_len PySem.boot_len (pa_cons (pv 8) pa_nil)) (pe_use C__law_fewest (hr.mono (by decide)) rfl (pa_cons (pv 3) pa_nil)) (nomark _)))))) (pss_one (ps_ret pe_bl)) pss_nil)
    (pss_cons (ps_set (i := 11) sc_law.nd rfl (Or.inl rfl) (pe_op op_catA (pe_slice (r := rSlA K) sl_tupA (pv 8) (po_some pe_int) po_none) (pe_slice (r := rSlA K) sl_tupA (pv 8) po_none (po_some pe_int))))
    (Evl.pss_cut (ps_if (PW.pt (pw_or (pt_not (pt_val (pe_use C_is_circle (hr.mono (by decide)) rfl (pa_cons (pv 7) (pa_cons (pv 8) pa_nil))))) (pw_or (pt_not (pt_val (pe_useK0 K_is_circle (hr.mono (by decide)) rfl (pk_cons (pv 7) (pk_cons (pv 11) pk_nil))))) (pw_or1 (pt_val (pe_use C_is_circle (hr.mono (by decide)) rfl (pa_cons (pv 7) (pa_cons (pe_callTy call_list_of (by rfl) n_list (by decide +kernel) (pa_cons (pv 8) pa_nil)) pa_nil)))))))) (pss_one (ps_ret pe_bl)) pss_nil)
    (Evl.pss_cut (ps_if (pt_cmpR op_ne (pe_use C_is_circle (hr.mono (by decide)) rfl (pa_cons (pv 7) (pa_cons (pe_slice (r := rSlA K) sl_tupA (pv 8) po_none (po_some (pe_un un_neg pe_int))) pa_nil))) (pe_and (pe_cmpR op_gt (pe_callB call_len_seq (by rfl) n_len PySem.boot_len (pa_cons (pv 8) pa_nil)) pe_int (nomark _)) (pe_one (pe_use C__law_is_ring (hr.mono (by decide)) rfl (pa_cons (pv 3) (pa_cons (pe_slice (r := rSlA K) sl_tupA (pv 8) po_none (po_some (pe_un un_neg pe_int))) pa_nil))))) (nomark _)) (pss_one (ps_ret pe_bl)) pss_nil)
    (pss_one (ps_if (pt_val (pe_use C_is_circle (hr.mono (by decide)) rfl (pa_cons (pv 7) (pa_cons (pe_op op_catA (pv 8) (pe_slice (r := rSlA K) sl_tupA (pv 8) po_none (po_some pe_int))) pa_nil)))) (pss_one (ps_ret pe_bl)) pss_nil)))))) pss_nil)
    (pss_cons (ps_set (i := 12) sc_law.nd rfl (Or.inl rfl) (pe_callTy call_tuple_of (by rfl) n_tuple (by decide +kernel) (pa_cons (pe_lc (own := [("part", 13)]) (g := gName 13) rfl sc_law.nd (pi_range1 (by rfl) n_range (pa_cons (pe_op op_add pe_int (pe_use C__law_draw (hr.mono (by decide)) rfl (pa_cons (pv 1) (pa_cons pe_int pa_nil)))) pa_nil)) (blkOk_by (N := ["script", "deal", "turn", "told", "rooms", "gongs", "calls", "made", "found", "comes", "steps", "turned", "value", "part"]) (sc := defScope s_law) (by decide +kernel)) (fun _ _ _ _ _ => pg_name (i := 13) sc_law.nd rfl (Or.inl rfl)) (fun _ _ _ _ _ => pts_nil) (fun _ _ _ _ _ => pe_use C__law_pick (hr.mono (by decide)) rfl (pa_cons (pv 1) (pa_cons (pv 10) pa_nil)))) pa_nil)))
    (Evl.pss_cut (ps_if (pt_cmpR op_ne (pe_use C_is_circle (hr.mono (by decide)) rfl (pa_cons (pv 7) (pa_cons (pv 12) pa_nil))) (pe_use C__law_is_ring (hr.mono (by decide)) rfl (pa_cons (pv 3) (pa_cons (pv 12) pa_nil))) (nomark _)) (pss_one (ps_ret pe_bl)) pss_nil)
    (pss_cons (ps_set (i := 12) sc_law.nd rfl (Or.inl rfl) (pe_use C__law_pick (hr.mono (by decide)) rfl (pa_cons (pv 1) (pa_cons (pe_lst (pa_cons pe_non (pa_cons (pe_tup pa_nil) (pa_cons pe_int (pa_cons pe_str (pa_cons (pe_tup (pa_cons pe_str (pa_cons pe_int pa_nil))) (pa_cons (pe_tup (pa_cons pe_non pa_nil)) (pa_cons (pe_tup (pa_cons (pe_tup (pa_cons pe_str (pa_cons pe_int pa_nil))) pa_nil)) (pa_cons (pe_tup (pa_cons (pe_ix ix_list (pv 10) pe_int (fun _ _ => rfl)) pa_nil)) (pa_cons (pe_tup (pa_cons (pe_tup (pa_cons (pe_ix (r := rIxT K) ix_tup (pe_ix ix_list (pv 10) pe_int (fun _ _ => rfl)) pe_int (fun _ _ => rfl)) (pa_cons pe_int pa_nil))) pa_nil)) pa_nil)))))))))) pa_nil))))
    (pss_one (ps_if (pt_val (pe_use C_is_circle (hr.mono (by decide)) rfl (pa_cons (pv 7) (pa_cons (pv 12) pa_nil)))) (pss_one (ps_ret pe_bl)) pss_nil)))))))))))))
    (pss_one (ps_ret pe_bl)))), ?_⟩
    refine ⟨_, rfl, a0, ns, rfl, hs, ln, fun p l H1 hp hl s1 dl => ?_⟩
    refine ⟨fun σ H' => True, ?_, fun σ H' _ => q H'⟩
    refine ⟨2, rfl, by decide, by decide, ?_⟩
    refine for_range (n := 2) (fun i σ H' => (∃ o2 o3 o4 o5 o6 o7 o8 o9 o10 o11 o12 o13, σ = [some (.ref a0), some (.ref p), o2, o3, o4, o5, o6, o7, o8, o9, o10, o11, o12, o13]) ∧ DealAt H' p l) ⟨⟨none, none, none, none, none, none, none, none, none, none, none, none, rfl⟩, dl⟩ ?_ fun _ _ _ => trivial
    rintro ti σ H2 hti ⟨⟨o2, o3, o4, o5, o6, o7, o8, o9, o10, o11, o12, o13, rfl⟩, d2⟩
    refine ⟨_, rfl, _, rfl, _, _, rfl, rfl, p, l, 6 - (0 + (ti : Nat)), rfl, by omega, by omega, d2, fun u a b c H3 rs gs cs k3 d3 hu ha hb hc la lb lc rl => ?_⟩
    have smr := sm_rms rl.half
    have smg : SmJs (.list (gs.map jnD)) := sm_jns rl.half (by have := rl.lg; omega) rl.gj
    have smc : SmJs (.list (cs.map jnD)) := sm_jns rl.half (by have := rl.lc; omega) rl.cj
    have nR := law_nm rl
    have gr := law_gr rl
    have rx := law_x rl
    have ri := law_in rl
    have er := err_law rl
    refine ⟨_, rfl, u, _, rfl, hu, rfl, _, _, rfl, _, _, rfl, _, _, rfl, rfl, ?_⟩
    refine ⟨_, rfl, _, rfl, _, rfl, ?_⟩
    intro x0 dx0 hx0 hd0 ne0
    refine rd_mk la.dp lb.dp lc.dp smr smg smc er hx0 hd0 ne0 fun H4 s4 rm => ⟨rfl, ?_⟩
    have rm : RoomsAt K C H4 x0 ⟨rs, gs, cs⟩ := rm
    refine ⟨_, rfl, rfl, rfl, x0, ⟨rs, gs, cs⟩, rfl, rm, gr, fun v H5 o s5 ov lst => ?_⟩
    have s35 := s4.trans s5
    have isn := rl.half.isn
    have nst : ∀ s ∈ stepsR rs, IsNm s.1 := nm_step isn
    refine ⟨_, rfl, _, rfl, _, rfl, a, b, c, rs, gs, cs, rfl, la.same s35, lb.same s35, lc.same s35, rl.nr.2, rl.half.nd, isn, rl.tot, fun r hr => Nat.le_trans (rl.tl r hr).1 (by decide), fun j hj => ⟨(rl.gj j hj).1, (rl.gj j hj).2.1⟩, fun j hj => ⟨(rl.cj j hj).1, (rl.cj j hj).2.1⟩, Nat.le_trans rl.lg (by decide), Nat.le_trans rl.lc (by decide), fun qw H6 ws s6 hqw lw mw => ?_⟩
    have ci := comes_iff ri mw lst
    refine ⟨by show 0 ≤ sizeLine; decide, fun t ht => ?_⟩
    have s7 := same_new ht (.lst [])
    have e7 : upd H6 t (.lst []) t = some (.lst []) := upd_same
    generalize upd H6 t (.lst []) = H7 at s7 e7 ⊢
    refine rd_ne0 (lw.same s7) (sh_wvs rl.half.nd nst fun W hW => ((mw W).mp hW).1) e7 ⟨_, _, rfl, ?_⟩
    have s37 := s35.trans (s6.trans s7)
    have ov7 := ov.same (s6.trans s7)
    have rm7 := rm.same (s5.trans (s6.trans s7))
    have td3 : ToldAt K H3 u rs gs cs := ⟨a, b, c, hu, la, lb, lc⟩
    have td7 := td3.same s37
    have d7 := d3.same s37
    refine ⟨fun σ H' => σ = [some (.ref a0), some (.ref p), some (.int (0 + (ti : Nat))), some (.ref u), some (.ref a), some (.ref b), some (.ref c), some (.ref x0), some v, some (.bl (!decide (ws = []))), o10, o11, o12, o13] ∧ H' = H7, ?_, ?_⟩
    · refine ⟨_, rfl, rfl, _, rfl, ?_⟩
      have vb : decide (v = V.non) = !decide (ws = []) := by
        cases o with
        | none =>
          rw [decide_eq_true (show v = V.non from ov), decide_eq_false (ci.mp rfl)]; rfl
        | some l =>
          obtain ⟨q, _, e, _⟩ := id ov
          rw [decide_eq_false (fun z => by rw [e] at z; cases z), decide_eq_true (Classical.byContradiction fun z => nomatch ci.mpr z)]; rfl
      have vf : (!decide (V.bl (decide (v = V.non)) = V.bl (!decide (ws = [])))) = false := by rw [vb, decide_eq_true rfl]; rfl
      refine ⟨rfl, _, rfl, ?_⟩
      rw [vf]
      exact iteF ⟨rfl, rfl⟩
    rintro σ H8 ⟨rfl, rfl⟩
    refine ⟨_, rfl, a, rs, rfl, la.same s37, by have := rl.nr; omega, fun r hr => Nat.le_trans (rl.tl r hr).1 (by decide), fun sp H9 s9 hsp lsp => ?_⟩
    have ov9 := ov7.same s9
    have rm9 := rm7.same s9
    have td9 := td7.same s9
    have d9 := d7.same s9
    have nG := nR.g
    have nC := nR.c
    have smT : ∀ l : List Stp, (∀ s ∈ l, s ∈ stepsR rs) → ∀ x ∈ itemsD (.tuple (l.map stD)), SmS x := fun l hl x hx => by
      obtain ⟨s, hs, rfl⟩ := List.mem_map.mp (show x ∈ l.map stD from hx)
      exact smS_st (nm_of_step rl.half (hl s hs))
    refine ⟨fun σ H' => (∃ o11, σ = [some (.ref a0), some (.ref p), some (.int (0 + (ti : Nat))), some (.ref u), some (.ref a), some (.ref b), some (.ref c), some (.ref x0), some v, some (.bl (!decide (ws = []))), some (.ref sp), o11, o12, o13]) ∧ Same H9 H', ?_, ?_⟩
    · refine ⟨_, rfl, rfl, _, rfl, ?_⟩
      cases o with
      | none =>
        rw [show v = V.non from ov]
        exact iteF ⟨⟨_, rfl⟩, Same.refl _⟩
      | some lf =>
        obtain ⟨qf, xs, rfl, tq, al0⟩ := ov9
        have al : All2 (fun v s => Dp K H9 v (stD s)) xs lf := al0.imp fun _ _ h => h.dp
        obtain ⟨⟨pa, pb, pp, rr⟩, -⟩ := id lst
        obtain ⟨rg, inS, ne⟩ := road_ring pp rr
        have ll := al.len
        have lle : lf.length ≤ 6 := Nat.le_trans (nd_leG lf _ rg.nd inS) rl.tot
        have ht : SqT K H9 qf xs := SqT.of tq
        have dv : Dp K H9 (.ref qf) (.tuple (lf.map stD)) := .tup ht (dpa_of (all2_mapR al))
        have nx : xs ≠ [] := fun z => by rw [z] at ll; exact ne (List.length_eq_zero_iff.mp ll.symm)
        have nlf : ∀ s ∈ lf, IsNm s.1 := fun s hs => nst s (inS s hs)
        refine iteT ⟨fun σ H' => (∃ o11, σ = [some (.ref a0), some (.ref p), some (.int (0 + (ti : Nat))), some (.ref u), some (.ref a), some (.ref b), some (.ref c), some (.ref x0), some (.ref qf), some (.bl (!decide (ws = []))), some (.ref sp), o11, o12, o13]) ∧ Same H9 H', ?_, ?_⟩
        · refine ⟨_, rfl, _, .ty "tuple", _, _, _, rfl, .ty "tuple", ty_dp dv, kit_tup dv, true, rfl, iteF ⟨_, rfl, _, rfl, u, qf, rs, gs, cs, lf, rfl, td9, nG, nC, ⟨xs, ht, al⟩, nlf, by omega, fun H10 s10 => ⟨_, rfl, ?_⟩⟩⟩
          rw [(ring_iff rx lf).mpr rg]
          refine iteF ⟨_, rfl, qf, xs, rfl, .inr (tupFix (Fix.of s10) ht), _, rfl, u, rs, gs, cs, rfl, td9.same s10, nG, nC, by have := rl.nr; omega, fun r hr => Nat.le_trans (rl.tl r hr).1 (by decide), nst, by have := rl.tot; omega, fun n H11 s11 fw => ⟨rfl, _, rfl, ?_⟩⟩
          have en := few_len rx lst fw
          rw [en, ll, decide_eq_true rfl]
          exact iteF ⟨⟨_, rfl⟩, s10.trans s11⟩
        rintro σ H10 ⟨⟨o11', rfl⟩, s10⟩
        refine turn_te rfl (tupFix (Fix.of s10) ht) nx (by omega) fun qt H11 s11 htt => ?_
        have s911 := s10.trans s11
        have alt : All2 (fun v s => Dp K H9 v (stD s)) (xs.drop 1 ++ xs.take 1) (lf.drop 1 ++ lf.take 1) := all2_turn al
        have inT : ∀ s ∈ lf.drop 1 ++ lf.take 1, s ∈ stepsR rs := fun s hs => by
          rcases List.mem_append.mp hs with h | h
          · exact inS s (List.mem_of_mem_drop h)
          · exact inS s (List.mem_of_mem_take h)
        have tup9 : ∀ {H' : Hp} {q : Addr} {ys : List V} {l : List Stp}, Same H9 H' → SqT K H' q ys → All2 (fun v s => Dp K H9 v (stD s)) ys l → Dp K H' (.ref q) (.tuple (l.map stD)) := fun s h a => .tup h (dpa_of (all2_mapR (a.imp fun _ _ r => dp_same s r)))
        refine ⟨fun σ H' => σ = [some (.ref a0), some (.ref p), some (.int (0 + (ti : Nat))), some (.ref u), some (.ref a), some (.ref b), some (.ref c), some (.ref x0), some (.ref qf), some (.bl (!decide (ws = []))), some (.ref sp), some (.ref qt), o12, o13] ∧ Same H9 H', ?_, ?_⟩
        · refine ⟨_, rfl, _, rfl, x0, .ref qf, ⟨rs, gs, cs⟩, .tuple (lf.map stD), rfl, rm9.same s911, nR, gr.k1, rl.half.nd, tup9 s911 (tupFix (Fix.of s911) ht) al, by show (lf.map stD).length < 64; rw [List.length_map]; omega, smT lf inS, fun H12 s12 => ⟨_, rfl, ?_⟩⟩
          rw [(circ_iff nR rl.half.nd inS).mpr rg]
          have s12' := s911.trans s12
          refine iteF ⟨_, rfl, _, rfl, rfl, rfl, x0, .ref qt, ⟨rs, gs, cs⟩, .tuple ((lf.drop 1 ++ lf.take 1).map stD), rfl, rm9.same s12', nR, gr.k1, rl.half.nd, tup9 s12' (tupFix (Fix.of s12) htt) alt, by show (List.map stD _).length < 64; simp; omega, smT _ inT, fun H13 s13 => ⟨_, rfl, ?_⟩⟩
          rw [(circ_iff nR rl.half.nd inT).mpr rg.turn]
          have s13' := s12'.trans s13
          refine iteF ⟨_, rfl, _, rfl, qf, xs, rfl, .inr (tupFix (Fix.of s13') ht), fun h hh => ?_⟩
          have s14 := same_new hh (.lst xs)
          refine ⟨x0, .ref h, ⟨rs, gs, cs⟩, .list (lf.map stD), rfl, rm9.same (s13'.trans s14), nR, gr.k1, rl.half.nd, .lst (SqL.of upd_same) (dpa_of (all2_mapR (al.imp fun _ _ r => dp_same (s13'.trans s14) r))), by show (lf.map stD).length < 64; rw [List.length_map]; omega, smT lf inS, fun H15 s15 => ⟨_, rfl, iteF ⟨rfl, (s13'.trans s14).trans s15⟩⟩⟩
        rintro σ H12 ⟨rfl, s12⟩
        have inI : ∀ s ∈ lf.dropLast, s ∈ stepsR rs := fun s hs => inS s (List.dropLast_subset _ hs)
        have ali : All2 (fun v s => Dp K H9 v (stD s)) xs.dropLast lf.dropLast := all2_last al
        refine ⟨fun σ H' => σ = [some (.ref a0), some (.ref p), some (.int (0 + (ti : Nat))), some (.ref u), some (.ref a), some (.ref b), some (.ref c), some (.ref x0), some (.ref qf), some (.bl (!decide (ws = []))), some (.ref sp), some (.ref qt), o12, o13] ∧ Same H9 H', ?_, ?_⟩
        · refine ⟨_, rfl, init_te rfl (tupFix (Fix.of s12) ht) nx fun qi H13 s13 hti => ?_⟩
          have s93 := s12.trans s13
          refine ⟨x0, .ref qi, ⟨rs, gs, cs⟩, .tuple (lf.dropLast.map stD), rfl, rm9.same s93, nR, gr.k1, rl.half.nd, tup9 s93 hti ali, by show (List.map stD _).length < 64; simp; omega, smT _ inI, fun H14 s14 => ?_⟩
          rw [ring_circ rx nR rl.half.nd inI]
          have s94 := s93.trans s14
          refine ⟨_, rfl, qf, xs, rfl, .inr (tupFix (Fix.of s94) ht), _, _, rfl, rfl, _, rfl, ?_⟩
          refine iteD (fun lt => ?_) fun nlt => ?_
          · refine ⟨_, rfl, init_te rfl (tupFix (Fix.of s94) ht) nx fun q2 H15 s15 ht2 => ?_⟩
            have s95 := s94.trans s15
            refine ⟨u, q2, rs, gs, cs, lf.dropLast, rfl, td9.same s95, nG, nC, ⟨_, ht2, ali.imp fun _ _ r => dp_same s95 r⟩, fun s hs => nst s (inI s hs), by simp; omega, fun H16 s16 => ⟨rfl, _, rfl, ?_⟩⟩
            rw [decide_eq_true rfl]
            exact iteF ⟨rfl, s95.trans s16⟩
          · have e0 : lf.dropLast = [] := by
              apply List.length_eq_zero_iff.mp
              rw [List.length_dropLast]
              omega
            have ef : ringB gs cs lf.dropLast = false := by
              rw [e0]
              refine Bool.eq_false_iff.mpr fun z => ?_
              obtain ⟨_, hp, _⟩ := ((ring_iff rx []).mp z).ah
              cases hp
            refine ⟨rfl, _, rfl, ?_⟩
            rw [show ringB (RD.mk rs gs cs).gongs (RD.mk rs gs cs).calls lf.dropLast = false from ef, decide_eq_true rfl]
            exact iteF ⟨rfl, s94⟩
        rintro σ H13 ⟨rfl, s13⟩
        refine ⟨_, rfl, dup_te rfl (tupFix (Fix.of s13) ht) nx (by omega) fun qd H14 s14 htd => ?_⟩
        have s94 := s13.trans s14
        refine ⟨x0, .ref qd, ⟨rs, gs, cs⟩, .tuple ((lf ++ lf.take 1).map stD), rfl, rm9.same s94, nR, gr.k1, rl.half.nd, tup9 s94 htd (al.app (al.take 1)), by show (List.map stD _).length < 64; simp; omega, smT _ fun s hs => (List.mem_append.mp hs).elim (inS s) fun h => inS s (List.mem_of_mem_take h), fun H15 s15 => ⟨_, rfl, ?_⟩⟩
        have ef : circB ⟨rs, gs, cs⟩ (.tuple ((lf ++ lf.take 1).map stD)) = false := Bool.eq_false_iff.mpr fun z => RingP.dup ne ((circ_iff nR rl.half.nd fun s hs => (List.mem_append.mp hs).elim (inS s) fun h => inS s (List.mem_of_mem_take h)).mp z)
        rw [ef]
        exact iteF ⟨⟨_, rfl⟩, s94.trans s15⟩
    rintro σ H10 ⟨⟨o11', rfl⟩, s10⟩
    have s310 := (s37.trans s9).trans s10
    have d10 := d9.same s10
    have rm10 := rm9.same s10
    have na := deal_ne d2 ha
    have nb := deal_ne d2 hb
    have nc := deal_ne d2 hc
    have nsp := deal_ne d7 hsp
    have la10 := la.same s310
    have lb10 := lb.same s310
    have lc10 := lc.same s310
    have hu10 := tupFix (Fix.of s310) hu
    have lsp10 := lsp.same s10
    obtain ⟨ps, es, als⟩ := id lsp10
    have lps := als.len
    have lst1 : 1 ≤ (stepsR rs).length := by
      cases h : stepsR rs with
      | nil => exact absurd h rl.ne
      | cons _ _ => simp
    have tot := rl.tot
    refine ⟨_, rfl, p, l, 4, rfl, ⟨by decide, by decide⟩, d10, fun n H11 n0 n4 k11 d11 => ⟨_, _, rfl, rfl, 1 + n, rfl, by omega, by omega, fun D hD => ?_⟩⟩
    have nD := deal_ne d11 hD
    refine lc_range (lo := 0) (n := (1 + n).toNat) (fun i H' => Kept2 p l H11 H' ∧ DealAt H' p l ∧ ∃ (ys : List V) (t : List Stp), H' D = some (.lst ys) ∧ All2 (fun v s => Dp K H' v (stD s)) ys t ∧ t.length = i ∧ ∀ s ∈ t, s ∈ stepsR rs) ?_ ?_ ?_
    · exact ⟨Kept2.same (same_new hD _), deal_upd d11 nD.1 nD.2, [], [], upd_same, .nil, rfl, fun _ h => nomatch h⟩
    · rintro i H12 hi ⟨k12, d12, ys, t, eD, at3, lt, mt⟩
      have es12 := k12 _ _ (k11 _ _ es nsp.1 nsp.2) nsp.1 nsp.2
      refine ⟨rfl, _, rfl, _, rfl, p, l, sp, ps, rfl, d12, fun H' k => SqX.lst (k _ _ es12 nsp.1 nsp.2), ⟨by omega, by omega⟩, fun x H13 hx k13 d13 => ?_⟩
      obtain ⟨st, hst, dst⟩ := all2_memL als hx
      have eD13 := k13 _ _ eD nD.1 nD.2
      have f11 : Fix H10 H12 := (k11.trans k12).fix d10
      have fx : Fix H12 (upd H13 D (.lst (ys ++ [x]))) := (k13.fix d12).trans (Fix.lst eD13)
      refine ⟨ys, eD13, by rw [at3.len, lt, sizeLine_eq]; omega, fun c' o e h1 h2 => ?_, deal_upd d13 nD.1 nD.2, ys ++ [x], t ++ [st], upd_same, (at3.imp fun _ _ h => dp_fix fx (noL_st _) h).app (.cons (dp_fix (f11.trans fx) (noL_st _) dst) .nil), by rw [List.length_append, lt]; rfl, fun z hz => ?_⟩
      · rw [upd_ne (ne_of_none e hD)]
        exact k13 _ _ (k12 _ _ e h1 h2) h1 h2
      · rcases List.mem_append.mp hz with hz | hz
        · exact mt z hz
        · obtain rfl := List.mem_singleton.mp hz
          exact hst
    rintro H12 ⟨k12, d12, ys, t, eD, at3, lt, mt⟩
    refine ⟨D, ys, rfl, .inl ⟨SqL.of eD, fun qv hqv => ?_⟩⟩
    have s13 := same_new hqv (.tup ys)
    have ev : upd H12 qv (.tup ys) qv = some (.tup ys) := upd_same
    generalize upd H12 qv (.tup ys) = H13 at s13 ev ⊢
    have k1013 : Kept2 p l H10 H13 := (k11.trans k12).trans (Kept2.same s13)
    have f13 := k1013.fix d10
    have d13 := d12.same s13
    have td13 : ToldAt K H13 u rs gs cs := ⟨a, b, c, tupFix f13 hu10, la10.kept k1013 d10 na noL_rm, lb10.kept k1013 d10 nb noL_jn, lc10.kept k1013 d10 nc noL_jn⟩
    have rm13 := rm10.fix f13
    have lsp13 := lsp10.kept k1013 d10 nsp noL_st
    have av : All2 (fun v s => Dp K H13 v (stD s)) ys t := at3.imp fun _ _ h => dp_same s13 h
    refine ⟨fun σ H' => (∃ v12 o13', σ = [some (.ref a0), some (.ref p), some (.int (0 + (ti : Nat))), some (.ref u), some (.ref a), some (.ref b), some (.ref c), some (.ref x0), some v, some (.bl (!decide (ws = []))), some (.ref sp), o11', some v12, o13']) ∧ Same H13 H', ?_, ?_⟩
    · refine ⟨_, rfl, _, rfl, x0, .ref qv, ⟨rs, gs, cs⟩, .tuple (t.map stD), rfl, rm13, nR, gr.k1, rl.half.nd, .tup (SqT.of ev) (dpa_of (all2_mapR av)), by show (t.map stD).length < 64; rw [List.length_map]; omega, smT t mt, fun H14 s14 => ?_⟩
      refine ⟨_, rfl, _, rfl, u, qv, rs, gs, cs, t, rfl, td13.same s14, nG, nC, ⟨ys, SqT.of (s14 _ _ ev), av.imp fun _ _ r => dp_same s14 r⟩, fun s hs => nst s (mt s hs), by omega, fun H15 s15 => ⟨rfl, _, rfl, ?_⟩⟩
      rw [ring_circ rx nR rl.half.nd mt, decide_eq_true rfl]
      exact iteF ⟨⟨_, _, rfl⟩, s14.trans s15⟩
    rintro σ H14 ⟨⟨v12, o13', rfl⟩, s14⟩
    have d14 := d13.same s14
    have rm14 := rm13.same s14
    obtain ⟨zs, ez, alz⟩ := lsp13.same s14
    obtain ⟨s0, r0, es0⟩ : ∃ s0 r0, stepsR rs = s0 :: r0 := by
      cases h : stepsR rs with
      | nil => exact absurd h rl.ne
      | cons x y => exact ⟨x, y, rfl⟩
    have hs0 : s0 ∈ stepsR rs := by rw [es0]; exact List.mem_cons_self
    rw [es0] at alz
    cases alz with
    | @cons y0 _ zr _ dy0 alz' =>
    obtain ⟨p1, rfl, hp1⟩ := dp_st dy0
    refine ⟨_, rfl, ⟨by show 0 ≤ sizeLine; decide, fun t1 h1 => ?_⟩⟩
    have s15 := same_new h1 (.tup [])
    have e15 : upd H14 t1 (.tup []) t1 = some (.tup []) := upd_same
    generalize upd H14 t1 (.tup []) = H15 at s15 e15 ⊢
    refine ⟨by show 2 ≤ sizeLine; decide, fun t2 h2 => ?_⟩
    have s16 := same_new h2 (.tup [.str "a", .int 1])
    have e16 : upd H15 t2 (.tup [.str "a", .int 1]) t2 = some (.tup [.str "a", .int 1]) := upd_same
    generalize upd H15 t2 (.tup [.str "a", .int 1]) = H16 at s16 e16 ⊢
    refine ⟨by show 1 ≤ sizeLine; decide, fun t3 h3 => ?_⟩
    have s17 := same_new h3 (.tup [.non])
    have e17 : upd H16 t3 (.tup [.non]) t3 = some (.tup [.non]) := upd_same
    generalize upd H16 t3 (.tup [.non]) = H17 at s17 e17 ⊢
    refine ⟨by show 2 ≤ sizeLine; decide, fun t4 h4 => ⟨by show 1 ≤ sizeLine; decide, fun t5 h5 => ?_⟩⟩
    have s18 := same_new h4 (.tup [.str "none", .int 1])
    have e18 : upd H17 t4 (.tup [.str "none", .int 1]) t4 = some (.tup [.str "none", .int 1]) := upd_same
    have s19 := same_new h5 (.tup [.ref t4])
    have e19 : upd (upd H17 t4 (.tup [.str "none", .int 1])) t5 (.tup [.ref t4]) t5 = some (.tup [.ref t4]) := upd_same
    generalize upd (upd H17 t4 (.tup [.str "none", .int 1])) t5 (.tup [.ref t4]) = H19 at s19 e19 ⊢
    generalize upd H17 t4 (.tup [.str "none", .int 1]) = H18 at s18 e18 s19 h5
    have s149 := (((s15.trans s16).trans s17).trans s18).trans s19
    refine ⟨_, rfl, sp, _, 0, _, rfl, rfl, SqL.of (s149 _ _ ez), at0, by show 1 ≤ sizeLine; decide, fun t6 h6 => ?_⟩
    have s20 := same_new h6 (.tup [.ref p1])
    have e20 : upd H19 t6 (.tup [.ref p1]) t6 = some (.tup [.ref p1]) := upd_same
    generalize upd H19 t6 (.tup [.ref p1]) = H20 at s20 e20 ⊢
    have s1420 := s149.trans s20
    refine ⟨_, rfl, sp, _, 0, _, rfl, rfl, SqL.of (s1420 _ _ ez), at0, p1, _, 0, _, rfl, rfl, tupFix (Fix.of s1420) hp1, at0, by show 2 ≤ sizeLine; decide, fun t7 h7 => ⟨by show 1 ≤ sizeLine; decide, fun t8 h8 => ?_⟩⟩
    have s21 := same_new h7 (.tup [.str s0.1, .int 0])
    have e21 : upd H20 t7 (.tup [.str s0.1, .int 0]) t7 = some (.tup [.str s0.1, .int 0]) := upd_same
    have s22 := same_new h8 (.tup [.ref t7])
    have e22 : upd (upd H20 t7 (.tup [.str s0.1, .int 0])) t8 (.tup [.ref t7]) t8 = some (.tup [.ref t7]) := upd_same
    generalize upd (upd H20 t7 (.tup [.str s0.1, .int 0])) t8 (.tup [.ref t7]) = H22 at s22 e22 ⊢
    generalize upd H20 t7 (.tup [.str s0.1, .int 0]) = H21 at s21 e21 s22 h8
    refine ⟨by show 9 ≤ sizeLine; decide, fun q9 h9 => ?_⟩
    have s23 := same_new h9 (.lst [.non, .ref t1, .int 5, .str "a", .ref t2, .ref t3, .ref t5, .ref t6, .ref t8])
    have e23 : upd H22 q9 (.lst [.non, .ref t1, .int 5, .str "a", .ref t2, .ref t3, .ref t5, .ref t6, .ref t8]) q9 = some (.lst [.non, .ref t1, .int 5, .str "a", .ref t2, .ref t3, .ref t5, .ref t6, .ref t8]) := upd_same
    generalize upd H22 q9 (.lst [.non, .ref t1, .int 5, .str "a", .ref t2, .ref t3, .ref t5, .ref t6, .ref t8]) = H23 at s23 e23 ⊢
    have s1422 := (s1420.trans s21).trans s22
    have s1423 := s1422.trans s23
    have d22 := d14.same s1422
    have d23 := d14.same s1423
    have nq := deal_ne d22 h9
    have bads : ∀ x ∈ [V.non, .ref t1, .int 5, .str "a", .ref t2, .ref t3, .ref t5, .ref t6, .ref t8], ∃ d, Dp K H23 x d ∧ BadC ⟨rs, gs, cs⟩ d := fun x hx => by
      simp only [List.mem_cons, List.not_mem_nil, or_false] at hx
      rcases hx with rfl | rfl | rfl | rfl | rfl | rfl | rfl | rfl | rfl
      · exact ⟨_, .non, bad_none⟩
      · exact ⟨_, .tup (SqT.of (s23 _ _ (s22 _ _ (s21 _ _ (s20 _ _ (s19 _ _ (s18 _ _ (s17 _ _ (s16 _ _ e15))))))))) .nil, bad_nil⟩
      · exact ⟨_, .int 5, bad_int 5⟩
      · exact ⟨_, .str "a", bad_str "a"⟩
      · exact ⟨_, .tup (SqT.of (s23 _ _ (s22 _ _ (s21 _ _ (s20 _ _ (s19 _ _ (s18 _ _ (s17 _ _ e16)))))))) (.cons (.str "a") (.cons (.int 1) .nil)), bad_pair⟩
      · exact ⟨_, .tup (SqT.of (s23 _ _ (s22 _ _ (s21 _ _ (s20 _ _ (s19 _ _ (s18 _ _ e17))))))) (.cons .non .nil), bad_non1⟩
      · exact ⟨_, .tup (SqT.of (s23 _ _ (s22 _ _ (s21 _ _ (s20 _ _ e19))))) (.cons (.tup (SqT.of (s23 _ _ (s22 _ _ (s21 _ _ (s20 _ _ (s19 _ _ e18)))))) (.cons (.str "none") (.cons (.int 1) .nil))) .nil), bad_noroom rl⟩
      · exact ⟨_, .tup (SqT.of (s23 _ _ (s22 _ _ (s21 _ _ e20)))) (.cons (dp_same s1423 dy0) .nil), bad_one rl hs0⟩
      · exact ⟨_, .tup (SqT.of (s23 _ _ e22)) (.cons (.tup (SqT.of (s23 _ _ (s22 _ _ e21))) (.cons (.str s0.1) (.cons (.int 0) .nil))) .nil), bad_zero rl hs0⟩
    refine ⟨p, l, q9, _, rfl, d23, fun H' k => SqX.lst (k _ _ e23 nq.1 nq.2), ⟨by show 1 ≤ 9; decide, by show 9 ≤ 1000; decide⟩, fun x H24 hx k24 d24 => ?_⟩
    obtain ⟨d, dx, bd⟩ := bads x hx
    refine ⟨_, rfl, _, rfl, x0, x, ⟨rs, gs, cs⟩, d, rfl, (rm14.same s1423).fix (k24.fix d23), nR, gr.k1, rl.half.nd, dp_fix (k24.fix d23) bd.nl dx, bd.ln, bd.sm, fun H25 s25 => ⟨_, rfl, ?_⟩⟩
    rw [bd.no]
    exact iteF ⟨⟨_, _, _, _, _, _, _, _, _, _, _, _, rfl⟩, d24.same s25⟩
end
end R0

namespace R0
open PySem PySem.Spec PyProof.Rows L2 Hb St Sq Ow En Zp RZ Rd Xb Da Wa Tn Rg Dc Mr Ec Su Lz
theorem all_mk {l : PySem.W.OpenLaw} {w : World} {K : PySem.W.Frag} {h : Heap} {mg : Str → Option Value} {fa f_is_name f_is_lot f_is_tale f_is_integer f_is_count f_is_sequence f_are_rooms f_is_step f_is_join f_steps_of f_is_ahead f_is_leading f_leads_of f_shortest_road f_join_circle f_is_unlike_steps f_is_circle f__law_deal f__law_draw f__law_pick f__law_lots f__law_tale f__law_steps f__law_joins f__law_rooms f__law_level f__law_fits f__law_weaves f__law_leads f__law_is_ring f__law_rings f__law_fewest f_law : Addr} (X : K.In h) (G : h.Ns mainGlobals mg) (hfa : mg "law" = some (.ref fa)) {B C CR eg ec dT : Addr} {tkL tkM : Tok} {dO : Obj} {dn : Nat} {N_r fI_r : Addr} {nm_r q_r : Str} {bs_r : List Value} {sn_r : List Str} {sub_r : List Value} {ab_r : Bool} {col_r : Option Bool} {dd_r : Option Addr} {m0_r m1_r m2_r m3_r m5_r : Option Value} {ocI_r dcI_r pmI_r cdI_r ctI_r : Value} {odI_r anI_r : Option Addr} {slI_r : Array (Option Value)} {fm___init__ : Addr} {odm___init__ anm___init__ : Option Addr} {slm___init__ : Array (Option Value)} {ocm___init__ kVm___init__ dcm___init__ pmm___init__ cdm___init__ ctm___init__ : Value} {oE oF : Obj} {nE nF : Nat}
    {od0 an0 od1 an1 od2 an2 od3 an3 od4 an4 od5 an5 od6 an6 od7 an7 od8 an8 od9 an9 od10 an10 od11 an11 od12 an12 od13 an13 od14 an14 od15 an15 od16 an16 od17 an17 od18 an18 od19 an19 od20 an20 od21 an21 od22 an22 od23 an23 od24 an24 od25 an25 od26 an26 od27 an27 od28 an28 od29 an29 od30 an30 od31 an31 od32 an32 : Option Addr} {sl0 sl1 sl2 sl3 sl4 sl5 sl6 sl7 sl8 sl9 sl10 sl11 sl12 sl13 sl14 sl15 sl16 sl17 sl18 sl19 sl20 sl21 sl22 sl23 sl24 sl25 sl26 sl27 sl28 sl29 sl30 sl31 sl32 : Array (Option Value)} {oc0 kV0 dc0 pm0 cd0 ct0 oc1 kV1 dc1 pm1 cd1 ct1 oc2 kV2 dc2 pm2 cd2 ct2 oc3 kV3 dc3 pm3 cd3 ct3 oc4 kV4 dc4 pm4 cd4 ct4 oc5 kV5 dc5 pm5 cd5 ct5 oc6 kV6 dc6 pm6 cd6 ct6 oc7 kV7 dc7 pm7 cd7 ct7 oc8 kV8 dc8 pm8 cd8 ct8 oc9 kV9 dc9 pm9 cd9 ct9 oc10 kV10 dc10 pm10 cd10 ct10 oc11 kV11 dc11 pm11 cd11 ct11 oc12 kV12 dc12 pm12 cd12 ct12 oc13 kV13 dc13 pm13 cd13 ct13 oc14 kV14 dc14 pm14 cd14 ct14 oc15 kV15 dc15 pm15 cd15 ct15 oc16 kV16 dc16 pm16 cd16 ct16 oc17 kV17 dc17 pm17 cd17 ct17 oc18 kV18 dc18 pm18 cd18 ct18 oc19 kV19 dc19 pm19 cd19 ct19 oc20 kV20 dc20 pm20 cd20 ct20 oc21 kV21 dc21 pm21 cd21 ct21 oc22 kV22 dc22 pm22 cd22 ct22 oc23 kV23 dc23 pm23 cd23 ct23 oc24 kV24 dc24 pm24 cd24 ct24 oc25 kV25 dc25 pm25 cd25 ct25 oc26 kV26 dc26 pm26 cd26 ct26 oc27 kV27 dc27 pm27 cd27 ct27 oc28 kV28 dc28 pm28 cd28 ct28 oc29 kV29 dc29 pm29 cd29 ct29 oc30 kV30 dc30 pm30 cd30 ct30 oc31 kV31 dc31 pm31 cd31 ct31 oc32 kV32 dc32 pm32 cd32 ct32 : Value}
    (aB : PySem.W.nsIn K mainGlobals "BellError" = some (some (.ref B)))
    (aC_r : PySem.W.nsIn K mainGlobals "InvalidRooms" = some (some (.ref CR)))
    (xL_r : K.lookup CR = some (PySem.excClassObj nm_r q_r CR N_r bs_r [.ref B, .type "Exception", .type "BaseException", .type "object"] true sn_r sub_r ab_r col_r dd_r m0_r m1_r m2_r m3_r m5_r "Exception.__new__"))
    (sa_r : PySem.W.findIn K (.ref CR) "__setattr__" = some (some (.builtin "object.__setattr__")))
    (ga_r : PySem.W.findIn K (.ref CR) "__getattribute__" = some (some (.builtin "BaseException.__getattribute__")))
    (gg_r : PySem.W.findIn K (.ref CR) "__getattr__" = some none)
    (nb_r : PySem.W.findIn K (.ref CR) "at" = some none)
    (aI_r : PySem.W.findIn K (.ref CR) "__init__" = some (some (.ref fI_r)))
    (tI_r : PySem.W.typeIn K (.ref fI_r) = some (.type "function"))
    (lI_r : K.lookup fI_r = some ⟨ocI_r, odI_r, .func (PySem.W.fnOf "__init__" "InvalidRooms.__init__" (Xb.iA ⟨13, 17, 13, 21⟩ ⟨13, 23, 13, 25⟩) (Xb.iB ⟨14, 8, 14, 12⟩ ⟨14, 8, 14, 15⟩ ⟨14, 18, 14, 20⟩ ⟨14, 8, 14, 20⟩) Xb.iS .none .none dcI_r pmI_r anI_r cdI_r ctI_r), slI_r⟩)
    (cI_r : PySem.W.codeIn K cdI_r "InvalidRooms.__init__" = true)
    (kC_r : PySem.W.keepIn K (.ref CR) = true)
    (eC_r : PySem.W.subIn K (.ref CR) (.type "BaseException") = some true)
    (tC_r : PySem.W.typeIn K (.ref CR) = some (.type "type"))
    (hC_r : PySem.W.hasDictIn K CR = true)
    (sC_r : PySem.W.subIn K (.ref CR) (.ref CR) = some true)
    (xc2 : PySem.W.specialIn K (.builtin "object.__class__") "__get__" = some (some (.builtin "getset_descriptor.__get__")))
    (xc3 : PySem.W.takesIn K (.builtin "object.__class__") = some true)
    (aR : PySem.W.nsIn K mainGlobals "Rooms" = some (some (.ref C)))
    (rpg : PySem.W.plainGet K C Str.empty = true)
    (rhd : PySem.W.hasDictIn K C = true)
    (rpo : PySem.W.plainOver K C = true)
    (rsa : PySem.W.findIn K (.ref C) "__setattr__" = some (some (.builtin "object.__setattr__")))
    (rnR : PySem.W.findIn K (.ref C) "rooms" = some none)
    (rnG : PySem.W.findIn K (.ref C) "gongs" = some none)
    (rnC : PySem.W.findIn K (.ref C) "calls" = some none)
    (rx1 : PySem.W.findIn K (.ref C) "__class__" = some (some (.builtin "object.__class__")))
    (rx4 : PySem.W.mroIn K C (.type "object") = some true)
    (rkC : PySem.W.kitOne K (.ref C) (.ref C) = some true)
    (rkS : PySem.W.kitOne K (.type "str") (.ref C) = some false)
    (rmk : PySem.W.makesIn K C = true)
    (rkp : PySem.W.keepIn K (.ref C) = true)
    (am___init__ : PySem.W.findIn K (.ref C) "__init__" = some (some (.ref fm___init__)))
    (lm___init__ : K.lookup fm___init__ = some ⟨ocm___init__, odm___init__, .func (PySem.W.fnOf "__init__" "Rooms.__init__" (defArgs s_Rooms___init__) (defBody s_Rooms___init__) (defScope s_Rooms___init__) (.ref dT) kVm___init__ dcm___init__ pmm___init__ anm___init__ cdm___init__ ctm___init__), slm___init__⟩)
    (cm___init__ : PySem.W.codeIn K cdm___init__ "Rooms.__init__" = true)
    (km___init__ : PySem.W.keepIn K (.ref fm___init__) = true)
    (im___init__ : PySem.W.isFn K (.ref fm___init__) = true)
    (eT : K.lookup dT = some dO)
    (eTd : dO.data = .seq #[.ref eg, .ref ec] dn)
    (eE : K.lookup eg = some oE)
    (eEd : oE.cls = .type "tuple" ∧ oE.data = .seq #[] nE)
    (eF : K.lookup ec = some oF)
    (eFd : oF.cls = .type "tuple" ∧ oF.data = .seq #[] nF)
    (a0 : PySem.W.nsIn K mainGlobals "is_name" = some (some (.ref f_is_name)))
    (l0 : K.lookup f_is_name = some ⟨oc0, od0, .func (PySem.W.fnOf "is_name" "is_name" (defArgs s_is_name) (defBody s_is_name) (defScope s_is_name) .none kV0 dc0 pm0 an0 cd0 ct0), sl0⟩)
    (c0 : PySem.W.codeIn K cd0 "is_name" = true)
    (k0 : PySem.W.keepIn K (.ref f_is_name) = true)
    (a1 : PySem.W.nsIn K mainGlobals "is_lot" = some (some (.ref f_is_lot)))
    (l1 : K.lookup f_is_lot = some ⟨oc1, od1, .func (PySem.W.fnOf "is_lot" "is_lot" (defArgs s_is_lot) (defBody s_is_lot) (defScope s_is_lot) .none kV1 dc1 pm1 an1 cd1 ct1), sl1⟩)
    (c1 : PySem.W.codeIn K cd1 "is_lot" = true)
    (k1 : PySem.W.keepIn K (.ref f_is_lot) = true)
    (a2 : PySem.W.nsIn K mainGlobals "is_tale" = some (some (.ref f_is_tale)))
    (l2 : K.lookup f_is_tale = some ⟨oc2, od2, .func (PySem.W.fnOf "is_tale" "is_tale" (defArgs s_is_tale) (defBody s_is_tale) (defScope s_is_tale) .none kV2 dc2 pm2 an2 cd2 ct2), sl2⟩)
    (c2 : PySem.W.codeIn K cd2 "is_tale" = true)
    (k2 : PySem.W.keepIn K (.ref f_is_tale) = true)
    (a3 : PySem.W.nsIn K mainGlobals "is_integer" = some (some (.ref f_is_integer)))
    (l3 : K.lookup f_is_integer = some ⟨oc3, od3, .func (PySem.W.fnOf "is_integer" "is_integer" (defArgs s_is_integer) (defBody s_is_integer) (defScope s_is_integer) .none kV3 dc3 pm3 an3 cd3 ct3), sl3⟩)
    (c3 : PySem.W.codeIn K cd3 "is_integer" = true)
    (k3 : PySem.W.keepIn K (.ref f_is_integer) = true)
    (a4 : PySem.W.nsIn K mainGlobals "is_count" = some (some (.ref f_is_count)))
    (l4 : K.lookup f_is_count = some ⟨oc4, od4, .func (PySem.W.fnOf "is_count" "is_count" (defArgs s_is_count) (defBody s_is_count) (defScope s_is_count) .none kV4 dc4 pm4 an4 cd4 ct4), sl4⟩)
    (c4 : PySem.W.codeIn K cd4 "is_count" = true)
    (k4 : PySem.W.keepIn K (.ref f_is_count) = true)
    (a5 : PySem.W.nsIn K mainGlobals "is_sequence" = some (some (.ref f_is_sequence)))
    (l5 : K.lookup f_is_sequence = some ⟨oc5, od5, .func (PySem.W.fnOf "is_sequence" "is_sequence" (defArgs s_is_sequence) (defBody s_is_sequence) (defScope s_is_sequence) .none kV5 dc5 pm5 an5 cd5 ct5), sl5⟩)
    (c5 : PySem.W.codeIn K cd5 "is_sequence" = true)
    (k5 : PySem.W.keepIn K (.ref f_is_sequence) = true)
    (a6 : PySem.W.nsIn K mainGlobals "are_rooms" = some (some (.ref f_are_rooms)))
    (l6 : K.lookup f_are_rooms = some ⟨oc6, od6, .func (PySem.W.fnOf "are_rooms" "are_rooms" (defArgs s_are_rooms) (defBody s_are_rooms) (defScope s_are_rooms) .none kV6 dc6 pm6 an6 cd6 ct6), sl6⟩)
    (c6 : PySem.W.codeIn K cd6 "are_rooms" = true)
    (k6 : PySem.W.keepIn K (.ref f_are_rooms) = true)
    (a7 : PySem.W.nsIn K mainGlobals "is_step" = some (some (.ref f_is_step)))
    (l7 : K.lookup f_is_step = some ⟨oc7, od7, .func (PySem.W.fnOf "is_step" "is_step" (defArgs s_is_step) (defBody s_is_step) (defScope s_is_step) .none kV7 dc7 pm7 an7 cd7 ct7), sl7⟩)
    (c7 : PySem.W.codeIn K cd7 "is_step" = true)
    (k7 : PySem.W.keepIn K (.ref f_is_step) = true)
    (a8 : PySem.W.nsIn K mainGlobals "is_join" = some (some (.ref f_is_join)))
    (l8 : K.lookup f_is_join = some ⟨oc8, od8, .func (PySem.W.fnOf "is_join" "is_join" (defArgs s_is_join) (defBody s_is_join) (defScope s_is_join) .none kV8 dc8 pm8 an8 cd8 ct8), sl8⟩)
    (c8 : PySem.W.codeIn K cd8 "is_join" = true)
    (k8 : PySem.W.keepIn K (.ref f_is_join) = true)
    (a9 : PySem.W.nsIn K mainGlobals "steps_of" = some (some (.ref f_steps_of)))
    (l9 : K.lookup f_steps_of = some ⟨oc9, od9, .func (PySem.W.fnOf "steps_of" "steps_of" (defArgs s_steps_of) (defBody s_steps_of) (defScope s_steps_of) .none kV9 dc9 pm9 an9 cd9 ct9), sl9⟩)
    (c9 : PySem.W.codeIn K cd9 "steps_of" = true)
    (k9 : PySem.W.keepIn K (.ref f_steps_of) = true)
    (a10 : PySem.W.nsIn K mainGlobals "is_ahead" = some (some (.ref f_is_ahead)))
    (l10 : K.lookup f_is_ahead = some ⟨oc10, od10, .func (PySem.W.fnOf "is_ahead" "is_ahead" (defArgs s_is_ahead) (defBody s_is_ahead) (defScope s_is_ahead) .none kV10 dc10 pm10 an10 cd10 ct10), sl10⟩)
    (c10 : PySem.W.codeIn K cd10 "is_ahead" = true)
    (k10 : PySem.W.keepIn K (.ref f_is_ahead) = true)
    (a11 : PySem.W.nsIn K mainGlobals "is_leading" = some (some (.ref f_is_leading)))
    (l11 : K.lookup f_is_leading = some ⟨oc11, od11, .func (PySem.W.fnOf "is_leading" "is_leading" (defArgs s_is_leading) (defBody s_is_leading) (defScope s_is_leading) .none kV11 dc11 pm11 an11 cd11 ct11), sl11⟩)
    (c11 : PySem.W.codeIn K cd11 "is_leading" = true)
    (k11 : PySem.W.keepIn K (.ref f_is_leading) = true)
    (a12 : PySem.W.nsIn K mainGlobals "leads_of" = some (some (.ref f_leads_of)))
    (l12 : K.lookup f_leads_of = some ⟨oc12, od12, .func (PySem.W.fnOf "leads_of" "leads_of" (defArgs s_leads_of) (defBody s_leads_of) (defScope s_leads_of) .none kV12 dc12 pm12 an12 cd12 ct12), sl12⟩)
    (c12 : PySem.W.codeIn K cd12 "leads_of" = true)
    (k12 : PySem.W.keepIn K (.ref f_leads_of) = true)
    (a13 : PySem.W.nsIn K mainGlobals "shortest_road" = some (some (.ref f_shortest_road)))
    (l13 : K.lookup f_shortest_road = some ⟨oc13, od13, .func (PySem.W.fnOf "shortest_road" "shortest_road" (defArgs s_shortest_road) (defBody s_shortest_road) (defScope s_shortest_road) .none kV13 dc13 pm13 an13 cd13 ct13), sl13⟩)
    (c13 : PySem.W.codeIn K cd13 "shortest_road" = true)
    (k13 : PySem.W.keepIn K (.ref f_shortest_road) = true)
    (a14 : PySem.W.nsIn K mainGlobals "join_circle" = some (some (.ref f_join_circle)))
    (l14 : K.lookup f_join_circle = some ⟨oc14, od14, .func (PySem.W.fnOf "join_circle" "join_circle" (defArgs s_join_circle) (defBody s_join_circle) (defScope s_join_circle) .none kV14 dc14 pm14 an14 cd14 ct14), sl14⟩)
    (c14 : PySem.W.codeIn K cd14 "join_circle" = true)
    (k14 : PySem.W.keepIn K (.ref f_join_circle) = true)
    (a15 : PySem.W.nsIn K mainGlobals "is_unlike_steps" = some (some (.ref f_is_unlike_steps)))
    (l15 : K.lookup f_is_unlike_steps = some ⟨oc15, od15, .func (PySem.W.fnOf "is_unlike_steps" "is_unlike_steps" (defArgs s_is_unlike_steps) (defBody s_is_unlike_steps) (defScope s_is_unlike_steps) .none kV15 dc15 pm15 an15 cd15 ct15), sl15⟩)
    (c15 : PySem.W.codeIn K cd15 "is_unlike_steps" = true)
    (k15 : PySem.W.keepIn K (.ref f_is_unlike_steps) = true)
    (a16 : PySem.W.nsIn K mainGlobals "is_circle" = some (some (.ref f_is_circle)))
    (l16 : K.lookup f_is_circle = some ⟨oc16, od16, .func (PySem.W.fnOf "is_circle" "is_circle" (defArgs s_is_circle) (defBody s_is_circle) (defScope s_is_circle) .none kV16 dc16 pm16 an16 cd16 ct16), sl16⟩)
    (c16 : PySem.W.codeIn K cd16 "is_circle" = true)
    (k16 : PySem.W.keepIn K (.ref f_is_circle) = true)
    (a17 : PySem.W.nsIn K mainGlobals "_law_deal" = some (some (.ref f__law_deal)))
    (l17 : K.lookup f__law_deal = some ⟨oc17, od17, .func (PySem.W.fnOf "_law_deal" "_law_deal" (defArgs s__law_deal) (defBody s__law_deal) (defScope s__law_deal) .none kV17 dc17 pm17 an17 cd17 ct17), sl17⟩)
    (c17 : PySem.W.codeIn K cd17 "_law_deal" = true)
    (k17 : PySem.W.keepIn K (.ref f__law_deal) = true)
    (a18 : PySem.W.nsIn K mainGlobals "_law_draw" = some (some (.ref f__law_draw)))
    (l18 : K.lookup f__law_draw = some ⟨oc18, od18, .func (PySem.W.fnOf "_law_draw" "_law_draw" (defArgs s__law_draw) (defBody s__law_draw) (defScope s__law_draw) .none kV18 dc18 pm18 an18 cd18 ct18), sl18⟩)
    (c18 : PySem.W.codeIn K cd18 "_law_draw" = true)
    (k18 : PySem.W.keepIn K (.ref f__law_draw) = true)
    (a19 : PySem.W.nsIn K mainGlobals "_law_pick" = some (some (.ref f__law_pick)))
    (l19 : K.lookup f__law_pick = some ⟨oc19, od19, .func (PySem.W.fnOf "_law_pick" "_law_pick" (defArgs s__law_pick) (defBody s__law_pick) (defScope s__law_pick) .none kV19 dc19 pm19 an19 cd19 ct19), sl19⟩)
    (c19 : PySem.W.codeIn K cd19 "_law_pick" = true)
    (k19 : PySem.W.keepIn K (.ref f__law_pick) = true)
    (a20 : PySem.W.nsIn K mainGlobals "_law_lots" = some (some (.ref f__law_lots)))
    (l20 : K.lookup f__law_lots = some ⟨oc20, od20, .func (PySem.W.fnOf "_law_lots" "_law_lots" (defArgs s__law_lots) (defBody s__law_lots) (defScope s__law_lots) .none kV20 dc20 pm20 an20 cd20 ct20), sl20⟩)
    (c20 : PySem.W.codeIn K cd20 "_law_lots" = true)
    (k20 : PySem.W.keepIn K (.ref f__law_lots) = true)
    (a21 : PySem.W.nsIn K mainGlobals "_law_tale" = some (some (.ref f__law_tale)))
    (l21 : K.lookup f__law_tale = some ⟨oc21, od21, .func (PySem.W.fnOf "_law_tale" "_law_tale" (defArgs s__law_tale) (defBody s__law_tale) (defScope s__law_tale) .none kV21 dc21 pm21 an21 cd21 ct21), sl21⟩)
    (c21 : PySem.W.codeIn K cd21 "_law_tale" = true)
    (k21 : PySem.W.keepIn K (.ref f__law_tale) = true)
    (a22 : PySem.W.nsIn K mainGlobals "_law_steps" = some (some (.ref f__law_steps)))
    (l22 : K.lookup f__law_steps = some ⟨oc22, od22, .func (PySem.W.fnOf "_law_steps" "_law_steps" (defArgs s__law_steps) (defBody s__law_steps) (defScope s__law_steps) .none kV22 dc22 pm22 an22 cd22 ct22), sl22⟩)
    (c22 : PySem.W.codeIn K cd22 "_law_steps" = true)
    (k22 : PySem.W.keepIn K (.ref f__law_steps) = true)
    (a23 : PySem.W.nsIn K mainGlobals "_law_joins" = some (some (.ref f__law_joins)))
    (l23 : K.lookup f__law_joins = some ⟨oc23, od23, .func (PySem.W.fnOf "_law_joins" "_law_joins" (defArgs s__law_joins) (defBody s__law_joins) (defScope s__law_joins) .none kV23 dc23 pm23 an23 cd23 ct23), sl23⟩)
    (c23 : PySem.W.codeIn K cd23 "_law_joins" = true)
    (k23 : PySem.W.keepIn K (.ref f__law_joins) = true)
    (a24 : PySem.W.nsIn K mainGlobals "_law_rooms" = some (some (.ref f__law_rooms)))
    (l24 : K.lookup f__law_rooms = some ⟨oc24, od24, .func (PySem.W.fnOf "_law_rooms" "_law_rooms" (defArgs s__law_rooms) (defBody s__law_rooms) (defScope s__law_rooms) .none kV24 dc24 pm24 an24 cd24 ct24), sl24⟩)
    (c24 : PySem.W.codeIn K cd24 "_law_rooms" = true)
    (k24 : PySem.W.keepIn K (.ref f__law_rooms) = true)
    (a25 : PySem.W.nsIn K mainGlobals "_law_level" = some (some (.ref f__law_level)))
    (l25 : K.lookup f__law_level = some ⟨oc25, od25, .func (PySem.W.fnOf "_law_level" "_law_level" (defArgs s__law_level) (defBody s__law_level) (defScope s__law_level) .none kV25 dc25 pm25 an25 cd25 ct25), sl25⟩)
    (c25 : PySem.W.codeIn K cd25 "_law_level" = true)
    (k25 : PySem.W.keepIn K (.ref f__law_level) = true)
    (a26 : PySem.W.nsIn K mainGlobals "_law_fits" = some (some (.ref f__law_fits)))
    (l26 : K.lookup f__law_fits = some ⟨oc26, od26, .func (PySem.W.fnOf "_law_fits" "_law_fits" (defArgs s__law_fits) (defBody s__law_fits) (defScope s__law_fits) .none kV26 dc26 pm26 an26 cd26 ct26), sl26⟩)
    (c26 : PySem.W.codeIn K cd26 "_law_fits" = true)
    (k26 : PySem.W.keepIn K (.ref f__law_fits) = true)
    (a27 : PySem.W.nsIn K mainGlobals "_law_weaves" = some (some (.ref f__law_weaves)))
    (l27 : K.lookup f__law_weaves = some ⟨oc27, od27, .func (PySem.W.fnOf "_law_weaves" "_law_weaves" (defArgs s__law_weaves) (defBody s__law_weaves) (defScope s__law_weaves) .none kV27 dc27 pm27 an27 cd27 ct27), sl27⟩)
    (c27 : PySem.W.codeIn K cd27 "_law_weaves" = true)
    (k27 : PySem.W.keepIn K (.ref f__law_weaves) = true)
    (a28 : PySem.W.nsIn K mainGlobals "_law_leads" = some (some (.ref f__law_leads)))
    (l28 : K.lookup f__law_leads = some ⟨oc28, od28, .func (PySem.W.fnOf "_law_leads" "_law_leads" (defArgs s__law_leads) (defBody s__law_leads) (defScope s__law_leads) .none kV28 dc28 pm28 an28 cd28 ct28), sl28⟩)
    (c28 : PySem.W.codeIn K cd28 "_law_leads" = true)
    (k28 : PySem.W.keepIn K (.ref f__law_leads) = true)
    (a29 : PySem.W.nsIn K mainGlobals "_law_is_ring" = some (some (.ref f__law_is_ring)))
    (l29 : K.lookup f__law_is_ring = some ⟨oc29, od29, .func (PySem.W.fnOf "_law_is_ring" "_law_is_ring" (defArgs s__law_is_ring) (defBody s__law_is_ring) (defScope s__law_is_ring) .none kV29 dc29 pm29 an29 cd29 ct29), sl29⟩)
    (c29 : PySem.W.codeIn K cd29 "_law_is_ring" = true)
    (k29 : PySem.W.keepIn K (.ref f__law_is_ring) = true)
    (a30 : PySem.W.nsIn K mainGlobals "_law_rings" = some (some (.ref f__law_rings)))
    (l30 : K.lookup f__law_rings = some ⟨oc30, od30, .func (PySem.W.fnOf "_law_rings" "_law_rings" (defArgs s__law_rings) (defBody s__law_rings) (defScope s__law_rings) .none kV30 dc30 pm30 an30 cd30 ct30), sl30⟩)
    (c30 : PySem.W.codeIn K cd30 "_law_rings" = true)
    (k30 : PySem.W.keepIn K (.ref f__law_rings) = true)
    (a31 : PySem.W.nsIn K mainGlobals "_law_fewest" = some (some (.ref f__law_fewest)))
    (l31 : K.lookup f__law_fewest = some ⟨oc31, od31, .func (PySem.W.fnOf "_law_fewest" "_law_fewest" (defArgs s__law_fewest) (defBody s__law_fewest) (defScope s__law_fewest) .none kV31 dc31 pm31 an31 cd31 ct31), sl31⟩)
    (c31 : PySem.W.codeIn K cd31 "_law_fewest" = true)
    (k31 : PySem.W.keepIn K (.ref f__law_fewest) = true)
    (a32 : PySem.W.nsIn K mainGlobals "law" = some (some (.ref f_law)))
    (l32 : K.lookup f_law = some ⟨oc32, od32, .func (PySem.W.fnOf "law" "law" (defArgs s_law) (defBody s_law) (defScope s_law) .none kV32 dc32 pm32 an32 cd32 ct32), sl32⟩)
    (c32 : PySem.W.codeIn K cd32 "law" = true)
    (k32 : PySem.W.keepIn K (.ref f_law) = true)
    (z_abs : PySem.W.nsIn K mainGlobals "abs" = some none)
    (z_all : PySem.W.nsIn K mainGlobals "all" = some none)
    (z_any : PySem.W.nsIn K mainGlobals "any" = some none)
    (z_bool : PySem.W.nsIn K mainGlobals "bool" = some none)
    (z_enumerate : PySem.W.nsIn K mainGlobals "enumerate" = some none)
    (z_int : PySem.W.nsIn K mainGlobals "int" = some none)
    (z_isinstance : PySem.W.nsIn K mainGlobals "isinstance" = some none)
    (z_len : PySem.W.nsIn K mainGlobals "len" = some none)
    (z_list : PySem.W.nsIn K mainGlobals "list" = some none)
    (z_min : PySem.W.nsIn K mainGlobals "min" = some none)
    (z_range : PySem.W.nsIn K mainGlobals "range" = some none)
    (z_set : PySem.W.nsIn K mainGlobals "set" = some none)
    (z_sorted : PySem.W.nsIn K mainGlobals "sorted" = some none)
    (z_str : PySem.W.nsIn K mainGlobals "str" = some none)
    (z_tuple : PySem.W.nsIn K mainGlobals "tuple" = some none)
    (z_zip : PySem.W.nsIn K mainGlobals "zip" = some none)
    (gL : PySem.W.nsIn K mainGlobals "LETTERS" = some (some (.int 8 tkL)))
    (gM : PySem.W.nsIn K mainGlobals "MOST_ROOMS" = some (some (.int 3 tkM)))
    : ∃ fd : FuncData, (∀ (s : Shared) (u : Value), BindsTo s fd ⟨[u], []⟩ [("script", u)]) ∧ ∀ base : Heap, K.In base → base.Ns mainGlobals mg → FnOk l.prog w K mg base CX0 7 fa fd ["script"] (spLaw K) := by
  have e := hfa.symm.trans (PySem.W.mg_of X G a32)
  cases e
  have F_is_name := fun_mk (st := s_is_name) l0 c0 k0
  have b_is_name := F_is_name.binds (ps := ["value"]) fun _ _ _ _ _ _ us hl => match us, hl with | [_], _ => rfl
  have m_is_name := PySem.W.mg_of X G a0
  have F_is_lot := fun_mk (st := s_is_lot) l1 c1 k1
  have b_is_lot := F_is_lot.binds (ps := ["value"]) fun _ _ _ _ _ _ us hl => match us, hl with | [_], _ => rfl
  have m_is_lot := PySem.W.mg_of X G a1
  have F_is_tale := fun_mk (st := s_is_tale) l2 c2 k2
  have b_is_tale := F_is_tale.binds (ps := ["value"]) fun _ _ _ _ _ _ us hl => match us, hl with | [_], _ => rfl
  have m_is_tale := PySem.W.mg_of X G a2
  have F_is_integer := fun_mk (st := s_is_integer) l3 c3 k3
  have b_is_integer := F_is_integer.binds (ps := ["value"]) fun _ _ _ _ _ _ us hl => match us, hl with | [_], _ => rfl
  have m_is_integer := PySem.W.mg_of X G a3
  have F_is_count := fun_mk (st := s_is_count) l4 c4 k4
  have b_is_count := F_is_count.binds (ps := ["value"]) fun _ _ _ _ _ _ us hl => match us, hl with | [_], _ => rfl
  have m_is_count := PySem.W.mg_of X G a4
  have F_is_sequence := fun_mk (st := s_is_sequence) l5 c5 k5
  have b_is_sequence := F_is_sequence.binds (ps := ["value"]) fun _ _ _ _ _ _ us hl => match us, hl with | [_], _ => rfl
  have m_is_sequence := PySem.W.mg_of X G a5
  have F_are_rooms := fun_mk (st := s_are_rooms) l6 c6 k6
  have b_are_rooms := F_are_rooms.binds (ps := ["value"]) fun _ _ _ _ _ _ us hl => match us, hl with | [_], _ => rfl
  have m_are_rooms := PySem.W.mg_of X G a6
  have F_is_step := fun_mk (st := s_is_step) l7 c7 k7
  have b_is_step := F_is_step.binds (ps := ["many", "value"]) fun _ _ _ _ _ _ us hl => match us, hl with | [_, _], _ => rfl
  have m_is_step := PySem.W.mg_of X G a7
  have F_is_join := fun_mk (st := s_is_join) l8 c8 k8
  have b_is_join := F_is_join.binds (ps := ["many", "value"]) fun _ _ _ _ _ _ us hl => match us, hl with | [_, _], _ => rfl
  have m_is_join := PySem.W.mg_of X G a8
  have F_steps_of := fun_mk (st := s_steps_of) l9 c9 k9
  have b_steps_of := F_steps_of.binds (ps := ["rooms"]) fun _ _ _ _ _ _ us hl => match us, hl with | [_], _ => rfl
  have m_steps_of := PySem.W.mg_of X G a9
  have F_is_ahead := fun_mk (st := s_is_ahead) l10 c10 k10
  have b_is_ahead := F_is_ahead.binds (ps := ["rooms", "one", "other"]) fun _ _ _ _ _ _ us hl => match us, hl with | [_, _, _], _ => rfl
  have m_is_ahead := PySem.W.mg_of X G a10
  have F_is_leading := fun_mk (st := s_is_leading) l11 c11 k11
  have b_is_leading := F_is_leading.binds (ps := ["rooms", "one", "other"]) fun _ _ _ _ _ _ us hl => match us, hl with | [_, _, _], _ => rfl
  have m_is_leading := PySem.W.mg_of X G a11
  have F_leads_of := fun_mk (st := s_leads_of) l12 c12 k12
  have b_leads_of := F_leads_of.binds (ps := ["rooms"]) fun _ _ _ _ _ _ us hl => match us, hl with | [_], _ => rfl
  have m_leads_of := PySem.W.mg_of X G a12
  have F_shortest_road := fun_mk (st := s_shortest_road) l13 c13 k13
  have b_shortest_road := F_shortest_road.binds (ps := ["leads", "one", "other"]) fun _ _ _ _ _ _ us hl => match us, hl with | [_, _, _], _ => rfl
  have m_shortest_road := PySem.W.mg_of X G a13
  have F_join_circle := fun_mk (st := s_join_circle) l14 c14 k14
  have b_join_circle := F_join_circle.binds (ps := ["rooms"]) fun _ _ _ _ _ _ us hl => match us, hl with | [_], _ => rfl
  have m_join_circle := PySem.W.mg_of X G a14
  have F_is_unlike_steps := fun_mk (st := s_is_unlike_steps) l15 c15 k15
  have b_is_unlike_steps := F_is_unlike_steps.binds (ps := ["rooms", "value"]) fun _ _ _ _ _ _ us hl => match us, hl with | [_, _], _ => rfl
  have m_is_unlike_steps := PySem.W.mg_of X G a15
  have F_is_circle := fun_mk (st := s_is_circle) l16 c16 k16
  have b_is_circle := F_is_circle.binds (ps := ["rooms", "value"]) fun _ _ _ _ _ _ us hl => match us, hl with | [_, _], _ => rfl
  have m_is_circle := PySem.W.mg_of X G a16
  have F__law_deal := fun_mk (st := s__law_deal) l17 c17 k17
  have b__law_deal := F__law_deal.binds (ps := ["script", "base"]) fun _ _ _ _ _ _ us hl => match us, hl with | [_, _], _ => rfl
  have m__law_deal := PySem.W.mg_of X G a17
  have F__law_draw := fun_mk (st := s__law_draw) l18 c18 k18
  have b__law_draw := F__law_draw.binds (ps := ["deal", "bound"]) fun _ _ _ _ _ _ us hl => match us, hl with | [_, _], _ => rfl
  have m__law_draw := PySem.W.mg_of X G a18
  have F__law_pick := fun_mk (st := s__law_pick) l19 c19 k19
  have b__law_pick := F__law_pick.binds (ps := ["deal", "some"]) fun _ _ _ _ _ _ us hl => match us, hl with | [_, _], _ => rfl
  have m__law_pick := PySem.W.mg_of X G a19
  have F__law_lots := fun_mk (st := s__law_lots) l20 c20 k20
  have b__law_lots := F__law_lots.binds (ps := ["some"]) fun _ _ _ _ _ _ us hl => match us, hl with | [_], _ => rfl
  have m__law_lots := PySem.W.mg_of X G a20
  have F__law_tale := fun_mk (st := s__law_tale) l21 c21 k21
  have b__law_tale := F__law_tale.binds (ps := ["deal", "many"]) fun _ _ _ _ _ _ us hl => match us, hl with | [_, _], _ => rfl
  have m__law_tale := PySem.W.mg_of X G a21
  have F__law_steps := fun_mk (st := s__law_steps) l22 c22 k22
  have b__law_steps := F__law_steps.binds (ps := ["rooms"]) fun _ _ _ _ _ _ us hl => match us, hl with | [_], _ => rfl
  have m__law_steps := PySem.W.mg_of X G a22
  have F__law_joins := fun_mk (st := s__law_joins) l23 c23 k23
  have b__law_joins := F__law_joins.binds (ps := ["deal", "rooms", "many"]) fun _ _ _ _ _ _ us hl => match us, hl with | [_, _, _], _ => rfl
  have m__law_joins := PySem.W.mg_of X G a23
  have F__law_rooms := fun_mk (st := s__law_rooms) l24 c24 k24
  have b__law_rooms := F__law_rooms.binds (ps := ["deal", "most"]) fun _ _ _ _ _ _ us hl => match us, hl with | [_, _], _ => rfl
  have m__law_rooms := PySem.W.mg_of X G a24
  have F__law_level := fun_mk (st := s__law_level) l25 c25 k25
  have b__law_level := F__law_level.binds (ps := ["weave", "step"]) fun _ _ _ _ _ _ us hl => match us, hl with | [_, _], _ => rfl
  have m__law_level := PySem.W.mg_of X G a25
  have F__law_fits := fun_mk (st := s__law_fits) l26 c26 k26
  have b__law_fits := F__law_fits.binds (ps := ["weave", "gongs", "calls"]) fun _ _ _ _ _ _ us hl => match us, hl with | [_, _, _], _ => rfl
  have m__law_fits := PySem.W.mg_of X G a26
  have F__law_weaves := fun_mk (st := s__law_weaves) l27 c27 k27
  have b__law_weaves := F__law_weaves.binds (ps := ["rooms", "gongs", "calls"]) fun _ _ _ _ _ _ us hl => match us, hl with | [_, _, _], _ => rfl
  have m__law_weaves := PySem.W.mg_of X G a27
  have F__law_leads := fun_mk (st := s__law_leads) l28 c28 k28
  have b__law_leads := F__law_leads.binds (ps := ["rooms", "gongs", "calls", "one", "other"]) fun _ _ _ _ _ _ us hl => match us, hl with | [_, _, _, _, _], _ => rfl
  have m__law_leads := PySem.W.mg_of X G a28
  have F__law_is_ring := fun_mk (st := s__law_is_ring) l29 c29 k29
  have b__law_is_ring := F__law_is_ring.binds (ps := ["told", "value"]) fun _ _ _ _ _ _ us hl => match us, hl with | [_, _], _ => rfl
  have m__law_is_ring := PySem.W.mg_of X G a29
  have F__law_rings := fun_mk (st := s__law_rings) l30 c30 k30
  have b__law_rings := F__law_rings.binds (ps := ["told", "steps", "many"]) fun _ _ _ _ _ _ us hl => match us, hl with | [_, _, _], _ => rfl
  have m__law_rings := PySem.W.mg_of X G a30
  have F__law_fewest := fun_mk (st := s__law_fewest) l31 c31 k31
  have b__law_fewest := F__law_fewest.binds (ps := ["told"]) fun _ _ _ _ _ _ us hl => match us, hl with | [_], _ => rfl
  have m__law_fewest := PySem.W.mg_of X G a31
  have F_law := fun_mk (st := s_law) l32 c32 k32
  have m_law := PySem.W.mg_of X G a32
  have n_abs := PySem.W.mg_none_of X G z_abs
  have n_all := PySem.W.mg_none_of X G z_all
  have n_any := PySem.W.mg_none_of X G z_any
  have n_bool := PySem.W.mg_none_of X G z_bool
  have n_enumerate := PySem.W.mg_none_of X G z_enumerate
  have n_int := PySem.W.mg_none_of X G z_int
  have n_isinstance := PySem.W.mg_none_of X G z_isinstance
  have n_len := PySem.W.mg_none_of X G z_len
  have n_list := PySem.W.mg_none_of X G z_list
  have n_min := PySem.W.mg_none_of X G z_min
  have n_range := PySem.W.mg_none_of X G z_range
  have n_set := PySem.W.mg_none_of X G z_set
  have n_sorted := PySem.W.mg_none_of X G z_sorted
  have n_str := PySem.W.mg_none_of X G z_str
  have n_tuple := PySem.W.mg_none_of X G z_tuple
  have n_zip := PySem.W.mg_none_of X G z_zip
  have g_L := PySem.W.mg_of X G gL
  have g_M := PySem.W.mg_of X G gM
  have g_Rooms := PySem.W.mg_of X G aR
  have T_r : Xb.ErrC K mg "InvalidRooms" CR fI_r := { gC := PySem.W.mg_of X G aC_r, cls := ⟨nm_r, q_r, N_r, bs_r, _, sn_r, sub_r, ab_r, col_r, dd_r, m0_r, m1_r, m2_r, m3_r, m5_r, xL_r, rfl⟩, sa := sa_r, ga := ga_r, gg := gg_r, noN := nb_r, iC := aI_r, tC := tI_r, kC := kC_r, exC := eC_r, tyC := tC_r, hdC := hC_r, te := PySem.W.exm_ref eC_r hC_r tC_r sC_r, fn := ⟨_, _, _, _, _, _, _, _, _, _, _, _, _, _, _, lI_r, cI_r⟩ }
  have TC : RmT K C := ⟨⟨rpg, rhd, rpo, rsa⟩, rnR, rnG, rnC, rx1, xc2, xc3, rx4, rkC, rkS⟩
  have SE : ∀ H, SqT K H eg [] := fun H => .inr ⟨oE, #[], nE, eE, eEd.1, eEd.2, Nat.zero_le _, .nil⟩
  have SF : ∀ H, SqT K H ec [] := fun H => .inr ⟨oF, #[], nF, eF, eFd.1, eFd.2, Nat.zero_le _, .nil⟩
  have Fm___init__ : FunD K "__init__" "Rooms.__init__" (defArgs s_Rooms___init__) (defBody s_Rooms___init__) (defScope s_Rooms___init__) [.ref eg, .ref ec] [] fm___init__ _ := ⟨⟨_, _, _, _, _, _, _, _, _, _, rfl, lm___init__, cm___init__, .inr ⟨by simp, dT, dO, [.ref eg, .ref ec], dn, rfl, eT, eTd, .cons rfl (.cons rfl .nil)⟩, .inl rfl⟩, km___init__⟩
  refine ⟨PySem.W.fnOf "law" "law" (defArgs s_law) (defBody s_law) (defScope s_law) .none kV32 dc32 pm32 an32 cd32 ct32, fun s v => .of_eq rfl, fun base _ _ => ?_⟩
  have G_is_name := ok_is_name (P := l.prog) (w := w) (mg := mg) (base := base) F_is_name g_L n_isinstance n_len n_str
  have C_is_name : Hb.Cl l.prog w K mg base "is_name" ["value"] [] 1 (spIsName K) := ⟨_, _, [], G_is_name, m_is_name, k0, b_is_name, .nil⟩
  have G_is_lot := ok_is_lot (P := l.prog) (w := w) (mg := mg) (base := base) F_is_lot C_is_name n_all n_isinstance n_len n_tuple n_zip
  have C_is_lot : Hb.Cl l.prog w K mg base "is_lot" ["value"] [] 2 (spIsLot K) := ⟨_, _, [], G_is_lot, m_is_lot, k1, b_is_lot, .nil⟩
  have G_is_tale := ok_is_tale (P := l.prog) (w := w) (mg := mg) (base := base) F_is_tale C_is_lot n_all n_isinstance n_tuple
  have C_is_tale : Hb.Cl l.prog w K mg base "is_tale" ["value"] [] 3 (spIsTale K) := ⟨_, _, [], G_is_tale, m_is_tale, k2, b_is_tale, .nil⟩
  have G_is_integer := ok_isint (P := l.prog) (w := w) (mg := mg) (base := base) F_is_integer n_bool n_int n_isinstance
  have C_is_integer : Hb.Cl l.prog w K mg base "is_integer" ["value"] [] 1 (spIsInt K) := ⟨_, _, [], G_is_integer, m_is_integer, k3, b_is_integer, .nil⟩
  have G_is_count := ok_cnt (P := l.prog) (w := w) (mg := mg) (base := base) F_is_count C_is_integer
  have C_is_count : Hb.Cl l.prog w K mg base "is_count" ["value"] [] 2 (spCntD K) := ⟨_, _, [], G_is_count, m_is_count, k4, b_is_count, .nil⟩
  have G_is_sequence := ok_isseq (P := l.prog) (w := w) (mg := mg) (base := base) F_is_sequence n_isinstance n_list n_tuple
  have C_is_sequence : Hb.Cl l.prog w K mg base "is_sequence" ["value"] [] 1 (spSeq K) := ⟨_, _, [], G_is_sequence, m_is_sequence, k5, b_is_sequence, .nil⟩
  have G_are_rooms := ok_arer (P := l.prog) (w := w) (mg := mg) (base := base) F_are_rooms C_is_name C_is_sequence C_is_tale g_M n_all n_isinstance n_len n_set n_tuple
  have C_are_rooms : Hb.Cl l.prog w K mg base "are_rooms" ["value"] [] 4 (spAreR K w) := ⟨_, _, [], G_are_rooms, m_are_rooms, k6, b_are_rooms, .nil⟩
  have G_is_step := ok_step (P := l.prog) (w := w) (mg := mg) (base := base) F_is_step C_is_count C_is_name n_isinstance n_len n_tuple
  have C_is_step : Hb.Cl l.prog w K mg base "is_step" ["many", "value"] [] 3 (spStep K) := ⟨_, _, [], G_is_step, m_is_step, k7, b_is_step, .nil⟩
  have G_is_join := ok_join (P := l.prog) (w := w) (mg := mg) (base := base) F_is_join C_is_step n_all n_isinstance n_len n_tuple
  have C_is_join : Hb.Cl l.prog w K mg base "is_join" ["many", "value"] [] 4 (spJoin K) := ⟨_, _, [], G_is_join, m_is_join, k8, b_is_join, .nil⟩
  have G_steps_of := ok_stepsof (P := l.prog) (w := w) (mg := mg) (base := base) F_steps_of TC n_len n_range
  have C_steps_of : Hb.Cl l.prog w K mg base "steps_of" ["rooms"] [] 1 (spStepsOf K C) := ⟨_, _, [], G_steps_of, m_steps_of, k9, b_steps_of, .nil⟩
  have G_is_ahead := ok_ahead (P := l.prog) (w := w) (mg := mg) (base := base) F_is_ahead TC
  have C_is_ahead : Hb.Cl l.prog w K mg base "is_ahead" ["rooms", "one", "other"] [] 1 (spAhead K C) := ⟨_, _, [], G_is_ahead, m_is_ahead, k10, b_is_ahead, .nil⟩
  have G_is_leading := ok_lead (P := l.prog) (w := w) (mg := mg) (base := base) F_is_leading TC C_is_ahead
  have C_is_leading : Hb.Cl l.prog w K mg base "is_leading" ["rooms", "one", "other"] [] 2 (spLead K C) := ⟨_, _, [], G_is_leading, m_is_leading, k11, b_is_leading, .nil⟩
  have G_leads_of := ok_leadsof (P := l.prog) (w := w) (mg := mg) (base := base) F_leads_of C_is_leading C_steps_of
  have C_leads_of : Hb.Cl l.prog w K mg base "leads_of" ["rooms"] [] 3 (spLeads K C) := ⟨_, _, [], G_leads_of, m_leads_of, k12, b_leads_of, .nil⟩
  have G_shortest_road := ok_road (P := l.prog) (w := w) (mg := mg) (base := base) F_shortest_road n_tuple
  have C_shortest_road : Hb.Cl l.prog w K mg base "shortest_road" ["leads", "one", "other"] [] 1 (spRoad K) := ⟨_, _, [], G_shortest_road, m_shortest_road, k13, b_shortest_road, .nil⟩
  have G_join_circle := ok_joinc (P := l.prog) (w := w) (mg := mg) (base := base) F_join_circle C_is_ahead C_leads_of C_shortest_road n_len
  have C_join_circle : Hb.Cl l.prog w K mg base "join_circle" ["rooms"] [] 4 (spCirc K C) := ⟨_, _, [], G_join_circle, m_join_circle, k14, b_join_circle, .nil⟩
  have G_is_unlike_steps := ok_unl (P := l.prog) (w := w) (mg := mg) (base := base) F_is_unlike_steps TC C_is_step n_all n_isinstance n_len n_set n_tuple
  have C_is_unlike_steps : Hb.Cl l.prog w K mg base "is_unlike_steps" ["rooms", "value"] [] 4 (spUnl K C) := ⟨_, _, [], G_is_unlike_steps, m_is_unlike_steps, k15, b_is_unlike_steps, .nil⟩
  have G_is_circle := ok_isc (P := l.prog) (w := w) (mg := mg) (base := base) F_is_circle C_is_ahead C_is_leading C_is_unlike_steps n_all n_any n_list n_zip
  have C_is_circle : Hb.Cl l.prog w K mg base "is_circle" ["rooms", "value"] [] 5 (spIsC K C) := ⟨_, _, [], G_is_circle, m_is_circle, k16, b_is_circle, .nil⟩
  have G__law_deal := ok_deal (P := l.prog) (w := w) (mg := mg) (base := base) F__law_deal n_abs n_int
  have C__law_deal : Hb.Cl l.prog w K mg base "_law_deal" ["script", "base"] [] 1 (spDeal K) := ⟨_, _, [], G__law_deal, m__law_deal, k17, b__law_deal, .nil⟩
  have G__law_draw := ok_draw (P := l.prog) (w := w) (mg := mg) (base := base) F__law_draw n_int
  have C__law_draw : Hb.Cl l.prog w K mg base "_law_draw" ["deal", "bound"] [] 1 (spDraw) := ⟨_, _, [], G__law_draw, m__law_draw, k18, b__law_draw, .nil⟩
  have G__law_pick := ok_pick (P := l.prog) (w := w) (mg := mg) (base := base) F__law_pick C__law_draw n_len
  have C__law_pick : Hb.Cl l.prog w K mg base "_law_pick" ["deal", "some"] [] 2 (spPick K) := ⟨_, _, [], G__law_pick, m__law_pick, k19, b__law_pick, .nil⟩
  have G__law_lots := ok_lots (P := l.prog) (w := w) (mg := mg) (base := base) F__law_lots n_sorted
  have C__law_lots : Hb.Cl l.prog w K mg base "_law_lots" ["some"] [] 1 (spLots K) := ⟨_, _, [], G__law_lots, m__law_lots, k20, b__law_lots, .nil⟩
  have G__law_tale := ok_ltale (P := l.prog) (w := w) (mg := mg) (base := base) F__law_tale C__law_lots C__law_pick n_range n_tuple
  have C__law_tale : Hb.Cl l.prog w K mg base "_law_tale" ["deal", "many"] [] 3 (spTale K) := ⟨_, _, [], G__law_tale, m__law_tale, k21, b__law_tale, .nil⟩
  have G__law_steps := ok_lsteps (P := l.prog) (w := w) (mg := mg) (base := base) F__law_steps n_len n_range
  have C__law_steps : Hb.Cl l.prog w K mg base "_law_steps" ["rooms"] [] 1 (spSteps K) := ⟨_, _, [], G__law_steps, m__law_steps, k22, b__law_steps, .nil⟩
  have G__law_joins := ok_ljoins (P := l.prog) (w := w) (mg := mg) (base := base) F__law_joins C__law_draw C__law_pick C__law_steps n_range
  have C__law_joins : Hb.Cl l.prog w K mg base "_law_joins" ["deal", "rooms", "many"] [] 3 (spJoins K) := ⟨_, _, [], G__law_joins, m__law_joins, k23, b__law_joins, .nil⟩
  have G__law_rooms := ok_lrooms (P := l.prog) (w := w) (mg := mg) (base := base) F__law_rooms C__law_joins C__law_pick C__law_tale n_min n_range
  have C__law_rooms : Hb.Cl l.prog w K mg base "_law_rooms" ["deal", "most"] [] 4 (spRooms K) := ⟨_, _, [], G__law_rooms, m__law_rooms, k24, b__law_rooms, .nil⟩
  have G__law_level := ok_level (P := l.prog) (w := w) (mg := mg) (base := base) F__law_level n_enumerate
  have C__law_level : Hb.Cl l.prog w K mg base "_law_level" ["weave", "step"] [] 1 (spLevel K) := ⟨_, _, [], G__law_level, m__law_level, k25, b__law_level, .nil⟩
  have G__law_fits := ok_fits (P := l.prog) (w := w) (mg := mg) (base := base) F__law_fits C__law_level
  have C__law_fits : Hb.Cl l.prog w K mg base "_law_fits" ["weave", "gongs", "calls"] [] 2 (spFits K) := ⟨_, _, [], G__law_fits, m__law_fits, k26, b__law_fits, .nil⟩
  have G__law_weaves := ok_weaves (P := l.prog) (w := w) (mg := mg) (base := base) F__law_weaves C__law_fits C__law_lots n_enumerate n_len n_tuple
  have C__law_weaves : Hb.Cl l.prog w K mg base "_law_weaves" ["rooms", "gongs", "calls"] [] 3 (spWeaves K) := ⟨_, _, [], G__law_weaves, m__law_weaves, k27, b__law_weaves, .nil⟩
  have G__law_leads := ok_lleads (P := l.prog) (w := w) (mg := mg) (base := base) F__law_leads 
  have C__law_leads : Hb.Cl l.prog w K mg base "_law_leads" ["rooms", "gongs", "calls", "one", "other"] [] 1 (spLLeads K) := ⟨_, _, [], G__law_leads, m__law_leads, k28, b__law_leads, .nil⟩
  have G__law_is_ring := ok_ring (P := l.prog) (w := w) (mg := mg) (base := base) F__law_is_ring C__law_leads n_enumerate
  have C__law_is_ring : Hb.Cl l.prog w K mg base "_law_is_ring" ["told", "value"] [] 2 (spRing K) := ⟨_, _, [], G__law_is_ring, m__law_is_ring, k29, b__law_is_ring, .nil⟩
  have G__law_rings := ok_rings (P := l.prog) (w := w) (mg := mg) (base := base) F__law_rings C__law_leads n_range
  have C__law_rings : Hb.Cl l.prog w K mg base "_law_rings" ["told", "steps", "many"] [] 2 (spRings K) := ⟨_, _, [], G__law_rings, m__law_rings, k30, b__law_rings, .nil⟩
  have G__law_fewest := ok_few (P := l.prog) (w := w) (mg := mg) (base := base) F__law_fewest C__law_rings C__law_steps n_len n_range
  have C__law_fewest : Hb.Cl l.prog w K mg base "_law_fewest" ["told"] [] 3 (spFew K) := ⟨_, _, [], G__law_fewest, m__law_fewest, k31, b__law_fewest, .nil⟩
  have Gi := ok_init (P := l.prog) (w := w) (mg := mg) (base := base) Fm___init__ TC T_r C_are_rooms C_is_join C_is_sequence n_all n_enumerate n_len n_tuple
  obtain ⟨di3, vi3, Bi3⟩ := Fm___init__.binds1 (ps := ["self", "rooms", "gongs", "calls"]) 4 2 (by simp) rfl fun T kV doc pm an cdv ct us its h1 h2 => match us, its, h1, h2 with | [_, _, _, _], [_, _], _, _ => ⟨_, rfl, rfl⟩
  obtain ⟨di2, vi2, Bi2⟩ := Fm___init__.binds1 (ps := ["self", "rooms", "gongs", "calls"]) 3 1 (by simp) rfl fun T kV doc pm an cdv ct us its h1 h2 => match us, its, h1, h2 with | [_, _, _], [_, _], _, _ => ⟨_, rfl, rfl⟩
  obtain ⟨di1, vi1, Bi1⟩ := Fm___init__.binds1 (ps := ["self", "rooms", "gongs", "calls"]) 2 0 (by simp) rfl fun T kV doc pm an cdv ct us its h1 h2 => match us, its, h1, h2 with | [_, _], [_, _], _, _ => ⟨_, rfl, rfl⟩
  have bi3 : L2.Binds K (PySem.W.fnOf "__init__" "Rooms.__init__" (defArgs s_Rooms___init__) (defBody s_Rooms___init__) (defScope s_Rooms___init__) (.ref dT) kVm___init__ dcm___init__ pmm___init__ anm___init__ cdm___init__ ctm___init__) ["self", "rooms", "gongs", "calls"] [] := by cases vi3; exact Bi3
  have bi2 : L2.Binds K (PySem.W.fnOf "__init__" "Rooms.__init__" (defArgs s_Rooms___init__) (defBody s_Rooms___init__) (defScope s_Rooms___init__) (.ref dT) kVm___init__ dcm___init__ pmm___init__ anm___init__ cdm___init__ ctm___init__) ["self", "rooms", "gongs", "calls"] [.ref ec] := by cases vi2 with | cons r t => cases t; cases r; exact Bi2
  have bi1 : L2.Binds K (PySem.W.fnOf "__init__" "Rooms.__init__" (defArgs s_Rooms___init__) (defBody s_Rooms___init__) (defScope s_Rooms___init__) (.ref dT) kVm___init__ dcm___init__ pmm___init__ anm___init__ cdm___init__ ctm___init__) ["self", "rooms", "gongs", "calls"] [.ref eg, .ref ec] := by cases vi1 with | cons r t => cases t with | cons r2 t2 => cases t2; cases r; cases r2; exact Bi1
  have bik : KBn K (PySem.W.fnOf "__init__" "Rooms.__init__" (defArgs s_Rooms___init__) (defBody s_Rooms___init__) (defScope s_Rooms___init__) (.ref dT) kVm___init__ dcm___init__ pmm___init__ anm___init__ cdm___init__ ctm___init__) ["self", "rooms", "gongs", "calls"] 1 ["rooms", "gongs", "calls"] (fun us ws => us ++ ws) (fun vs zs => vs ++ zs) := ⟨fun s us ws X0 h1 h2 => BindsTo.of_looks fun M => by
      match us, h1, ws, h2 with
      | [u], _, [a, b, c], _ =>
        obtain ⟨k, e1, e2⟩ : ∃ k, bindArgs (PySem.W.fnOf "__init__" "Rooms.__init__" (defArgs s_Rooms___init__) (defBody s_Rooms___init__) (defScope s_Rooms___init__) (.ref dT) kVm___init__ dcm___init__ pmm___init__ anm___init__ cdm___init__ ctm___init__) ⟨[u], (["rooms", "gongs", "calls"] : List Str).zip [a, b, c]⟩ = seqItems? (.ref dT) >>= k ∧ k (some #[.ref eg, .ref ec]) = pure ((["self", "rooms", "gongs", "calls"] : List Str).zip ([u] ++ [a, b, c])) := ⟨_, rfl, rfl⟩
        rw [e1]
        exact looks_items (its := #[Value.ref eg, Value.ref ec]) X0 eT eTd (.of_pure e2), fun r1 r2 => r1.append r2⟩
  have M_Rooms : MkR l.prog w K mg base C CR eg ec := { ex := ⟨_, _, fun us ws => us ++ ws, ⟨rmk, am___init__, im___init__, rkp⟩, Gi, bi3, bi2, bi1, bik⟩, mgC := g_Rooms, eG := SE, eC := SF }
  have kb_join_circle : KBn K (PySem.W.fnOf "join_circle" "join_circle" (defArgs s_join_circle) (defBody s_join_circle) (defScope s_join_circle) .none kV14 dc14 pm14 an14 cd14 ct14) ["rooms"] 0 ["rooms"] (fun _ ws => ws) (fun _ zs => zs) := ⟨fun s us ws _ h1 h2 => by
      match us, h1, ws, h2 with
      | [], _, [_], _ => exact .of_eq rfl, fun _ r2 => r2⟩
  have K_join_circle : ClK l.prog w K mg base "join_circle" ["rooms"] 0 ["rooms"] (fun _ zs => zs) 4 (spCirc K C) := ⟨_, _, _, G_join_circle, m_join_circle, k14, kb_join_circle⟩
  have kb_is_circle : KBn K (PySem.W.fnOf "is_circle" "is_circle" (defArgs s_is_circle) (defBody s_is_circle) (defScope s_is_circle) .none kV16 dc16 pm16 an16 cd16 ct16) ["rooms", "value"] 0 ["rooms", "value"] (fun _ ws => ws) (fun _ zs => zs) := ⟨fun s us ws _ h1 h2 => by
      match us, h1, ws, h2 with
      | [], _, [_, _], _ => exact .of_eq rfl, fun _ r2 => r2⟩
  have K_is_circle : ClK l.prog w K mg base "is_circle" ["rooms", "value"] 0 ["rooms", "value"] (fun _ zs => zs) 5 (spIsC K C) := ⟨_, _, _, G_is_circle, m_is_circle, k16, kb_is_circle⟩
  exact ok_law (P := l.prog) (w := w) (mg := mg) (base := base) F_law C__law_deal C__law_draw C__law_fewest C__law_is_ring C__law_pick C__law_rooms C__law_steps C__law_weaves C_is_circle K_is_circle K_join_circle M_Rooms n_isinstance n_len n_list n_range n_tuple
theorem walk {l : PySem.W.OpenLaw} {q : Program} {loose : List Str} {XP : (Str → Option Value) → Heap → Prop} {YP : World → Heap → Prop} {d : DefRec} {K : Params → PySem.W.Frag} (hn : l.most = some 63) (hdf : d.params.defaults = [])
    (hY : ∀ (w : World) (h : Heap), YP w h → (K w.params).In h)
    (F : ∀ (w : World) (mg : Str → Option Value) (fa : Addr) (h : Heap), (K w.params).In h → h.Ns mainGlobals mg → mg d.name = some (.ref fa) →
      ∃ fd : FuncData, (∀ (s : Shared) (u : Value), BindsTo s fd ⟨[u], []⟩ [("script", u)]) ∧ ∀ base : Heap, (K w.params).In base → base.Ns mainGlobals mg → FnOk l.prog w (K w.params) mg base CX0 7 fa fd ["script"] (spLaw (K w.params))) :
    PySem.W.WalkO q loose XP YP l.row.toRowW d [] (fun f vs => PySem.call f vs) :=
  L2.walk_of (n := 63) (k := 7) (x := "script") (CX := fun _ => CX0) (sp := fun w => spLaw (K w.params)) hn (by decide) hdf ⟨rfl, by decide, by decide⟩ hY F (fun _ _ a ns hl _ hS => ⟨a, ns, rfl, hS, hl, fun _ => rfl⟩) fun _ _ _ _ _ z => z
end R0
open PySem PySem.W PyProof.Rows
set_option maxRecDepth 100000 in
set_option maxHeartbeats 0 in
theorem PySem.Challenge.cw_curvebells_k62_circles_of_joins_holds : PySem.Challenge.rw_curvebells_k62_circles_of_joins.Holds := by
  w_on; o_law; k_head; (case hw => w_witness2)
  k_fill
  refine R0.walk (l := PySem.Challenge.rw_curvebells_k62_circles_of_joins) rfl rfl (fun w h Y => PySem.W.kIn_of Y) ?F
  case F =>
    intro w mg fa h KX G hmg
    refine' R0.all_mk KX G hmg ?aB ?aC_r ?xL_r ?sa_r ?ga_r ?gg_r ?nb_r ?aI_r ?tI_r ?lI_r ?cI_r ?kC_r ?eC_r ?tC_r ?hC_r ?sC_r ?xc2 ?xc3 ?aR ?rpg ?rhd ?rpo ?rsa ?rnR ?rnG ?rnC ?rx1 ?rx4 ?rkC ?rkS ?rmk ?rkp ?am___init__ ?lm___init__ ?cm___init__ ?km___init__ ?im___init__ ?eT ?eTd ?eE ?eEd ?eF ?eFd ?a0 ?l0 ?c0 ?k0 ?a1 ?l1 ?c1 ?k1 ?a2 ?l2 ?c2 ?k2 ?a3 ?l3 ?c3 ?k3 ?a4 ?l4 ?c4 ?k4 ?a5 ?l5 ?c5 ?k5 ?a6 ?l6 ?c6 ?k6 ?a7 ?l7 ?c7 ?k7 ?a8 ?l8 ?c8 ?k8 ?a9 ?l9 ?c9 ?k9 ?a10 ?l10 ?c10 ?k10 ?a11 ?l11 ?c11 ?k11 ?a12 ?l12 ?c12 ?k12 ?a13 ?l13 ?c13 ?k13 ?a14 ?l14 ?c14 ?k14 ?a15 ?l15 ?c15 ?k15 ?a16 ?l16 ?c16 ?k16 ?a17 ?l17 ?c17 ?k17 ?a18 ?l18 ?c18 ?k18 ?a19 ?l19 ?c19 ?k19 ?a20 ?l20 ?c20 ?k20 ?a21 ?l21 ?c21 ?k21 ?a22 ?l22 ?c22 ?k22 ?a23 ?l23 ?c23 ?k23 ?a24 ?l24 ?c24 ?k24 ?a25 ?l25 ?c25 ?k25 ?a26 ?l26 ?c26 ?k26 ?a27 ?l27 ?c27 ?k27 ?a28 ?l28 ?c28 ?k28 ?a29 ?l29 ?c29 ?k29 ?a30 ?l30 ?c30 ?k30 ?a31 ?l31 ?c31 ?k31 ?a32 ?l32 ?c32 ?k32 ?z_abs ?z_all ?z_any ?z_bool ?z_enumerate ?z_int ?z_isinstance ?z_len ?z_list ?z_min ?z_range ?z_set ?z_sorted ?z_str ?z_tuple ?z_zip ?gL ?gM
    (case aB => k_is)
    (case aC_r => k_is)
    (case xL_r => k_is)
    (case sa_r => k_is)
    (case ga_r => k_is)
    (case gg_r => k_is)
    (case nb_r => k_is)
    (case aI_r => k_is)
    (case tI_r => k_is)
    (case lI_r => k_is)
    (case cI_r => k_is)
    (case kC_r => k_is)
    (case eC_r => k_is)
    (case tC_r => k_is)
    (case hC_r => k_is)
    (case sC_r => first | rfl | k_is)
    (case xc2 => k_is)
    (case xc3 => k_is)
    (case aR => first | k_is | exact ⟨rfl, rfl⟩ | rfl | kernel_rfl)
    (case rpg => first | k_is | exact ⟨rfl, rfl⟩ | rfl | kernel_rfl)
    (case rhd => first | k_is | exact ⟨rfl, rfl⟩ | rfl | kernel_rfl)
    (case rpo => first | k_is | exact ⟨rfl, rfl⟩ | rfl | kernel_rfl)
    (case rsa => first | k_is | exact ⟨rfl, rfl⟩ | rfl | kernel_rfl)
    (case rnR => first | k_is | exact ⟨rfl, rfl⟩ | rfl | kernel_rfl)
    (case rnG => first | k_is | exact ⟨rfl, rfl⟩ | rfl | kernel_rfl)
    (case rnC => first | k_is | exact ⟨rfl, rfl⟩ | rfl | kernel_rfl)
    (case rx1 => first | k_is | exact ⟨rfl, rfl⟩ | rfl | kernel_rfl)
    (case rx4 => first | k_is | exact ⟨rfl, rfl⟩ | rfl | kernel_rfl)
    (case rkC => first | k_is | exact ⟨rfl, rfl⟩ | rfl | kernel_rfl)
    (case rkS => first | k_is | exact ⟨rfl, rfl⟩ | rfl | kernel_rfl)
    (case rmk => first | k_is | exact ⟨rfl, rfl⟩ | rfl | kernel_rfl)
    (case rkp => first | k_is | exact ⟨rfl, rfl⟩ | rfl | kernel_rfl)
    (case am___init__ => k_is)
    (case lm___init__ => k_is)
    (case cm___init__ => k_is)
    (case km___init__ => k_is)
    (case im___init__ => k_is)
    (case eT => k_is)
    (case eTd => first | rfl | exact ⟨rfl, rfl⟩)
    (case eE => k_is)
    (case eEd => first | rfl | exact ⟨rfl, rfl⟩)
    (case eF => k_is)
    (case eFd => first | rfl | exact ⟨rfl, rfl⟩)
    (case a0 => k_is)
    (case l0 => k_is)
    (case c0 => k_is)
    (case k0 => k_is)
    (case a1 => k_is)
    (case l1 => k_is)
    (case c1 => k_is)
    (case k1 => k_is)
    (case a2 => k_is)
    (case l2 => k_is)
    (case c2 => k_is)
    (case k2 => k_is)
    (case a3 => k_is)
    (case l3 => k_is)
    (case c3 => k_is)
    (case k3 => k_is)
    (case a4 => k_is)
    (case l4 => k_is)
    (case c4 => k_is)
    (case k4 => k_is)
    (case a5 => k_is)
    (case l5 => k_is)
    (case c5 => k_is)
    (case k5 => k_is)
    (case a6 => k_is)
    (case l6 => k_is)
    (case c6 => k_is)
    (case k6 => k_is)
    (case a7 => k_is)
    (case l7 => k_is)
    (case c7 => k_is)
    (case k7 => k_is)
    (case a8 => k_is)
    (case l8 => k_is)
    (case c8 => k_is)
    (case k8 => k_is)
    (case a9 => k_is)
    (case l9 => k_is)
    (case c9 => k_is)
    (case k9 => k_is)
    (case a10 => k_is)
    (case l10 => k_is)
    (case c10 => k_is)
    (case k10 => k_is)
    (case a11 => k_is)
    (case l11 => k_is)
    (case c11 => k_is)
    (case k11 => k_is)
    (case a12 => k_is)
    (case l12 => k_is)
    (case c12 => k_is)
    (case k12 => k_is)
    (case a13 => k_is)
    (case l13 => k_is)
    (case c13 => k_is)
    (case k13 => k_is)
    (case a14 => k_is)
    (case l14 => k_is)
    (case c14 => k_is)
    (case k14 => k_is)
    (case a15 => k_is)
    (case l15 => k_is)
    (case c15 => k_is)
    (case k15 => k_is)
    (case a16 => k_is)
    (case l16 => k_is)
    (case c16 => k_is)
    (case k16 => k_is)
    (case a17 => k_is)
    (case l17 => k_is)
    (case c17 => k_is)
    (case k17 => k_is)
    (case a18 => k_is)
    (case l18 => k_is)
    (case c18 => k_is)
    (case k18 => k_is)
    (case a19 => k_is)
    (case l19 => k_is)
    (case c19 => k_is)
    (case k19 => k_is)
    (case a20 => k_is)
    (case l20 => k_is)
    (case c20 => k_is)
    (case k20 => k_is)
    (case a21 => k_is)
    (case l21 => k_is)
    (case c21 => k_is)
    (case k21 => k_is)
    (case a22 => k_is)
    (case l22 => k_is)
    (case c22 => k_is)
    (case k22 => k_is)
    (case a23 => k_is)
    (case l23 => k_is)
    (case c23 => k_is)
    (case k23 => k_is)
    (case a24 => k_is)
    (case l24 => k_is)
    (case c24 => k_is)
    (case k24 => k_is)
    (case a25 => k_is)
    (case l25 => k_is)
    (case c25 => k_is)
    (case k25 => k_is)
    (case a26 => k_is)
    (case l26 => k_is)
    (case c26 => k_is)
    (case k26 => k_is)
    (case a27 => k_is)
    (case l27 => k_is)
    (case c27 => k_is)
    (case k27 => k_is)
    (case a28 => k_is)
    (case l28 => k_is)
    (case c28 => k_is)
    (case k28 => k_is)
    (case a29 => k_is)
    (case l29 => k_is)
    (case c29 => k_is)
    (case k29 => k_is)
    (case a30 => k_is)
    (case l30 => k_is)
    (case c30 => k_is)
    (case k30 => k_is)
    (case a31 => k_is)
    (case l31 => k_is)
    (case c31 => k_is)
    (case k31 => k_is)
    (case a32 => k_is)
    (case l32 => k_is)
    (case c32 => k_is)
    (case k32 => k_is)
    (case z_abs => k_is)
    (case z_all => k_is)
    (case z_any => k_is)
    (case z_bool => k_is)
    (case z_enumerate => k_is)
    (case z_int => k_is)
    (case z_isinstance => k_is)
    (case z_len => k_is)
    (case z_list => k_is)
    (case z_min => k_is)
    (case z_range => k_is)
    (case z_set => k_is)
    (case z_sorted => k_is)
    (case z_str => k_is)
    (case z_tuple => k_is)
    (case z_zip => k_is)
    (case gL => k_is)
    (case gM => k_is)
