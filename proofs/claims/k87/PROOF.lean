import PyProof.Rows.All
import Wide.All
import OpenK.AllK
import Wide.FinOn
import HandS.Codes
import HandS.Comp
import HandS.Conv
import HandS.DeepEq
import HandS.Defaults
import HandS.Dict
import HandS.DictComp
import HandS.EndOwn
import HandS.Evl
import HandS.ExcField
import HandS.ExcIs
import HandS.ExcOwn
import HandS.ForExc
import HandS.ForMost
import HandS.Gcd
import HandS.IsInst
import HandS.Iter
import HandS.Lambda
import HandS.List
import HandS.MakeKwOnly
import HandS.More
import HandS.NestedK
import HandS.OwnEq
import HandS.Set
import HandS.SetFor
import HandS.SetKeys
import HandS.SetTxt0
import HandS.Sort
import HandS.SortKw
import HandS.Star
import HandS.StrMore
import HandS.Strs
import HandS.TryMany
import HandS.TupAny
import HandS.Wide
import HandS.WordsExc
import HandS.Zip
import KE.DatumOrd
import KE.GoesEnum
import KE.GoesMore
import KE.KDictCopyH
import KE.KDictDisplayH
import KE.KDictKeyed
import KE.KExcInit
import KE.KExcIs
import KE.LtSeq
import KE.SortData
import PyProof.CallFns
import PyProof.DictMoreH
import PyProof.ReprReads
import PyProof.ReprRoads
import PyProof.Rows.SeqRoads
import PyProof.Rows.SortShellAny
import PySem.Challenge.RW_curvebells_k87_whole_events_silent_and_h
set_option Elab.async false
set_option linter.all false
set_option maxRecDepth 100000
set_option maxHeartbeats 16000000
/-! sets of texts, made of a list or tuple; sorted of them -/
namespace St
open PySem PySem.Spec PyProof.Rows L2 PySem.Froz
section
variable {P : Program} {w : World} {A : Around} {E : Value → Shared → Prop} {s : Shared}
/-- the order of a set's walk is known to be some order -/
def Led (w : World) (t : SetTable) : Prop := w.params.followText "set-order" = true ∨ t.led = true
/-- the set of the texts l stands at a -/
def TS (P : Program) (w : World) (h : Heap) (a : Addr) (l : List Str) : Prop := ∃ D, h.get? a = some (sObj "set" D) ∧ TxOk P w D l ∧ Ris D.2.2.place.toList ∧ Led w D.2.2 ∧ l.Nodup
theorem TS.at {h h' : Heap} {a : Addr} {l : List Str} (R : TS P w h a l) (k : ∀ o, h.get? a = some o → h'.get? a = some o) : TS P w h' a l := let ⟨D, e, r⟩ := R; ⟨D, k _ e, r⟩
theorem tail_ris {es : Array (Int × Value)} {t : SetTable} {ep : Nat} {wd : Bool} (r : Ris t.place.toList) : Ris (tailTx ep es t wd).2.2.place.toList := by
  unfold tailTx
  by_cases c : (!wd && t.tooFull) = true
  · rw [if_pos c]; exact relayAll_ris _ _ _
  · rw [if_neg c]; exact r
theorem tail_led {es : Array (Int × Value)} {t : SetTable} {ep : Nat} {wd : Bool} (r : t.led = true) : (tailTx ep es t wd).2.2.led = true := by
  unfold tailTx
  by_cases c : (!wd && t.tooFull) = true
  · rw [if_pos c]; exact (relayAll_led _ _ _).trans r
  · rw [if_neg c]; exact r
theorem addTx_ris {D : SD} {n : Int} {v : Value} (r : Ris D.2.2.place.toList) : Ris (addTx n v D).2.2.place.toList := by
  have r1 := layNew_ris D.2.2 D.1 n v r
  unfold addTx
  refine tail_ris ?_
  by_cases c : (layNew D.2.2 D.1 n v).2.1.plain = true
  · rw [if_pos c]; exact r1
  · rw [if_neg c]; exact r1
theorem addTx_led {D : SD} {n : Int} {v : Value} (r : Led w D.2.2) : Led w (addTx n v D).2.2 := by
  rcases r with r | r
  · exact .inl r
  · have l1 : (layNew D.2.2 D.1 n v).2.1.led = true := (layNew_led _ _ _ _).trans r
    refine .inr ?_
    unfold addTx
    refine tail_led ?_
    by_cases c : (layNew D.2.2 D.1 n v).2.1.plain = true
    · rw [if_pos c]; exact l1
    · rw [if_neg c]; exact l1
/-- add of a text that is in already -/
theorem had_x {a : Addr} {D : SD} {l : List Str} {k : Str} {u : Tok} {Q : Bool → Shared → Prop} (ho : s.heap.get? a = some (sObj "set" D)) (F : TxOk P w D l) (hk : k ∈ l) (hb : l.length < scanBound)
    (q : Q false s) : wpAny (model P w) A (setAddHashed a (.str k u) (hashStr w k)) Q E s := by
  obtain ⟨es, ep, t⟩ := D
  have small : es.size < scanBound := by rw [show es.size = l.length from F.sz]; exact hb
  obtain ⟨e, he, ie⟩ := (F.mem k).mp hk
  unfold setAddHashed setAddHashedIn
  refine wpAny_holding (wpAny_bind (wpAny_setState_of ho (rfl : (sObj "set" (es, ep, t)).data = .set es ep t) F.fit ?_)); dsimp only
  rw [byScan_of rfl small F.el, if_pos rfl]; unfold setAddByScan
  refine wpAny_bind (wpAny_bind (wpAny_rule (wpAny_bind (wpAny_setScan_of (knd := strKind P w) (is_str k u) ho rfl F.fit F.el ?_))))
  cases hr : es.toList.findIdx? (fun e => (strKind P w).is k e.2) with
  | some j => exact wpAny_pure (wpAny_pure q)
  | none => exact absurd ie (by rw [List.findIdx?_eq_none_iff.mp hr e he]; decide)
theorem ts_add {a : Addr} {l : List Str} {k : Str} {u : Tok} {Q : Bool → Shared → Prop} (R : TS P w s.heap a l) (hb : l.length + 1 < scanBound)
    (q : ∀ h' b, Heap.SameBut a s.heap h' → TS P w h' a (if k ∈ l then l else k :: l) → Q b { s with heap := h' }) : wpAny (model P w) A (setAddHashed a (.str k u) (hashStr w k)) Q E s := by
  obtain ⟨D, e, F, r, ld, nd⟩ := R
  by_cases hk : k ∈ l
  · exact had_x e F hk (by omega) (q s.heap false (Heap.SameBut.refl a s.heap) ⟨D, e, by rw [if_pos hk]; exact F, r, ld, by rw [if_pos hk]; exact nd⟩)
  · refine add_x e F hk hb (q _ true (Heap.SameBut.update s.heap a _) ⟨_, get_upd _ e rfl, ?_, addTx_ris r, addTx_led ld, ?_⟩)
    · rw [if_neg hk]; exact add_ok u F
    · rw [if_neg hk]; exact List.nodup_cons.mpr ⟨hk, nd⟩
/-- S.update(it), texts -/
theorem upd_texts {I : Addr} {fp wr : List Addr} {G : Array GenState → Array GenState → Prop} {n : Nat} {Pv : Nat → Value → Prop} {St : Nat → Shared → Prop} {R : Result → Shared → Prop}
    (W : WalksS P w A.in1 I fp wr G n Pv St) {S : Addr} (hS : S ∉ fp) {xs : List Str} (hn : n = xs.length) (hb : xs.length + 1 < scanBound) (hv : ∀ i v, Pv i v → ∃ x t, xs[i]? = some x ∧ v = .str x t) :
    ∀ (k i : Nat) (s : Shared) (l : List Str), n - i = k → i ≤ n → St i s → TS P w s.heap S l → l.length ≤ i → (∀ x, x ∈ l ↔ x ∈ xs.take i) →
      (∀ s' m, Moved (S :: wr) G s s' → TS P w s'.heap S m → m.length ≤ n → (∀ x, x ∈ m ↔ x ∈ xs) → R (.ok (.ret .none)) s') →
      codeAny (model P w) A (.builtin "set.update.loop" ⟨[.ref S, .ref I], []⟩) R s := by
  have sw : S ∉ wr := fun z => hS (W.sub S z)
  have wide : ∀ {s s' : Shared}, Moved wr G s s' → Moved (S :: wr) G s s' := fun m => m.mono fun b z => List.mem_cons_of_mem S z
  intro k
  induction k with
  | zero =>
    intro i s l e1 e2 st hT hl hm q
    obtain rfl : i = n := by omega
    refine codeAny_builtin F.entry_set_update_loop ?_
    rw [Around.under_plainId F.plain_set_update_loop _]
    refine wpAny_bind (m := pyNext (.ref I)) (W.done s _ _ st fun s' mv => ?_)
    refine wpAny_pure (q s' l (wide mv) (hT.at fun o e => mv.heap S o sw e) hl fun x => ?_)
    rw [hm x, List.take_of_length_le (by omega)]
  | succ k ih =>
    intro i s l e1 e2 st hT hl hm q
    have hi : i < n := by omega
    refine codeAny_builtin F.entry_set_update_loop ?_
    rw [Around.under_plainId F.plain_set_update_loop _]
    refine wpAny_bind (m := pyNext (.ref I)) (W.item i s _ _ hi st fun v s1 pv st1 mv => ?_)
    obtain ⟨x, t, ex, rfl⟩ := hv i v pv
    refine wpAny_bind (m := holding [Value.str x t] (setAdd S (.str x t))) (wpAny_holding ?_)
    unfold setAdd
    refine wpAny_holding (wpAny_bind ((strKind P w).pyHash (is_str (P := P) (w := w) x t) ?_))
    refine ts_add (s := { s1 with toks := s1.toks + 1 }) (hT.at fun o e => mv.heap S o sw e) (by omega) fun h' _ sb hT' => ?_
    have back : ∀ b o, b ≠ S → s1.heap.get? b = some o → h'.get? b = some o := fun b o ne e => (sb.2 b ne).trans e
    refine wpAny_pure ⟨plainId_quiet F.plain_set_update_loop _, ih (i + 1) _ _ (by omega) hi (W.frame _ s1 _ _ st1 (Nat.le_succ _) fun b z o e => back b o (fun y => hS (y ▸ z)) e) hT' ?_ (fun y => ?_) fun s2 m mv2 hT2 hl2 hm2 => ?_⟩
    · split
      · omega
      · rw [List.length_cons]; omega
    · rw [List.take_add_one, ex, List.mem_append, ← hm y]
      show _ ↔ _ ∨ y ∈ [x]
      rw [List.mem_singleton]
      split
      · exact ⟨.inl, fun z => z.elim id fun z => z ▸ (by assumption)⟩
      · rw [List.mem_cons]; exact Or.comm
    · exact q s2 m (Moved.trans W.gtrans ((wide mv).then_heap (Nat.le_succ _) fun b o z e => back b o (fun y => z (y ▸ List.mem_cons_self)) e) mv2) hT2 hl2 hm2
end
end St

namespace St
open PySem PySem.Spec PyProof.Rows L2 PySem.Froz
/-- a new set -/
abbrev S0 (w : World) : Obj := { cls := .type "set", dict := none, data := .set #[] 0 (.fresh 0 0 (!w.params.followText "set-order")) }
section
variable {P : Program} {w : World} {A : Around} {E : Value → Shared → Prop} {s : Shared}
set_option maxHeartbeats 16000000 in
/-- set(x), x a list or a tuple at l: its loop told by `loop` -/
theorem set_call {l : Addr} {T : String} {ol itO : Obj} {Res : Heap → Prop} {Q : Value → Shared → Prop} (hh : A.handled = none) (hol : s.heap.get? l = some ol) (hcl : ol.cls = .type T)
    (n1 : isSubtype (.type T) (.type "set") = pure false) (n2 : isSubtype (.type T) (.type "frozenset") = pure false) (n3 : (Value.type T == Value.type "dict") = false)
    (itr : ∀ {A : Around} {E : Value → Shared → Prop} {s1 : Shared} {Q : Value → Shared → Prop}, s1.heap.get? l = some ol → Q (.ref s1.heap.objs.size) { s1 with heap := s1.heap.push itO } → wpAny (model P w) A (pyIter (.ref l)) Q E s1)
    (loop : ∀ (A' : Around) (R : Result → Shared → Prop) (tk : Tok), A'.handled = none →
      (∀ h' tk', Res h' → (∀ b o, s.heap.get? b = some o → h'.get? b = some o) → R (.ok (.ret .none)) { s with heap := h', toks := tk' }) →
      codeAny (model P w) A' (.builtin "set.update.loop" ⟨[.ref s.heap.objs.size, .ref (s.heap.push (S0 w)).objs.size], []⟩) R { s with heap := (s.heap.push (S0 w)).push itO, toks := tk })
    (q : ∀ h' tk, Res h' → (∀ b o, s.heap.get? b = some o → h'.get? b = some o) → Q (.ref s.heap.objs.size) { s with heap := h', toks := tk }) :
    wpAny (model P w) A (call (.type "set") [.ref l]) Q E s := by
  obtain ⟨_, _, mro⟩ := F.called_set.mro; have made := F.called_set.made; have sub := F.called_set.sub; have k1 := F.called_set.notType; have k2 := F.called_set.canCreate; have ct := F.typeCall_set_1 (.ref l)
  refine wpAny_call (codeAny_of_tree ?_); show wpAny _ _ (callAny (.type "set") _) _ _ _
  refine wpAny_pure ⟨Code.quiet_builtin _ (by decide +kernel), codeAny_builtin F.entry_type_call ?_⟩; rw [Around.under_plain (weight_type_call_type "set" [.ref l] []) rfl]
  repeat any_goals first | assumption | wp_step
  refine codeAny_mono (code_set_led1 (.ref l) (E := E) (Q₁ := fun o s1 => o = .ref s.heap.objs.size ∧ s1 = { s with heap := s.heap.push (S0 w) }) ⟨rfl, rfl⟩) fun r s1 hr => ?_
  rcases r with e | (_ | _ | _ | o)
  · exact hr
  · exact hr.elim
  · exact hr.elim
  · exact hr.elim
  · obtain ⟨rfl, rfl⟩ := hr
    have hS : (s.heap.push (S0 w)).get? s.heap.objs.size = some (S0 w) := Heap.get?_push_size _ rfl
    have hT : Shared.TypeIs { s with heap := s.heap.push (S0 w) } (.ref s.heap.objs.size) "set" := ⟨_, hS, rfl⟩
    have il := F.called_set.init.lookup; have ib := F.called_set.init.bind (.ref s.heap.objs.size)
    repeat any_goals first | assumption | wp_step
    refine codeAny_mono (codeAny_call_builtin (R := wants (fun r s2 => r = .none ∧ ∃ h' tk, s2 = { s with heap := h', toks := tk } ∧ Res h' ∧ (∀ b o, s.heap.get? b = some o → h'.get? b = some o)) E) F.called_set.init.plain F.entry_set_init (check_set_init_1 hT ?_)) fun r2 s2 h2 => ?_
    · have e1 : (s.heap.push (S0 w)).get? l = some ol := Heap.get?_push_of_some _ hol
      have hTl : Shared.TypeIs { s with heap := s.heap.push (S0 w) } (.ref l) T := ⟨ol, e1, hcl⟩
      unfold Builtin.«set.__init__» noKeywords Builtin.Frozenset.updateFrom
      generalize hI : pyIter = PI
      obtain ⟨c, d, da, sl⟩ := ol
      dsimp only at hcl
      subst hcl
      wp_walk
      subst hI
      refine itr e1 (wpAny_bind (wpAny_runValue (loop _ _ _ (by simp [hh]) fun h' tk r k => ?_)))
      exact wpAny_pure (wpAny_pure ⟨rfl, h', tk, rfl, r, k⟩)
    · rcases r2 with e | (_ | _ | _ | o)
      · exact h2
      · exact h2.elim
      · exact h2.elim
      · exact h2.elim
      · obtain ⟨rfl, h', tk, rfl, r, k⟩ := h2
        repeat any_goals first | assumption | wp_step
        exact q _ _ r k
end
end St

namespace St
open PySem PySem.Spec PyProof.Rows L2 PySem.Froz
section
variable {P : Program} {w : World} {A : Around} {E : Value → Shared → Prop} {s : Shared}
theorem lkp {h : Heap} {o o' : Obj} {b : Addr} {u : Obj} (e : h.get? b = some u) : ((h.push o).push o').get? b = some u := Heap.get?_push_of_some _ (Heap.get?_push_of_some _ e)
/-- what the loop of the update leaves -/
theorem moved_end {s s' : Shared} {h1 : Heap} {tk : Tok} {S I : Addr} (hS : S = s.heap.objs.size) (hI : s.heap.objs.size ≤ I) (old : ∀ b o, s.heap.get? b = some o → h1.get? b = some o)
    (m : Moved [S, I] (fun a b => b = a) { s with heap := h1, toks := tk } s') : s' = { s with heap := s'.heap, toks := s'.toks } ∧ ∀ b o, s.heap.get? b = some o → s'.heap.get? b = some o := by
  refine ⟨?_, fun b o e => m.heap b o (fun z => ?_) (old b o e)⟩
  · have g := m.gens
    have d := m.drawn
    have os := m.os
    cases s'
    dsimp only at g d os ⊢
    rw [g, d, os]
  · have lt := Heap.lt_size e
    rcases List.mem_cons.mp z with z | z
    · exact absurd lt (by rw [z, hS]; exact Nat.lt_irrefl _)
    · exact absurd lt (by rw [List.mem_singleton.mp z]; exact Nat.not_lt_of_le hI)
theorem places {l : Addr} (lt : l < s.heap.objs.size) : l ≠ (s.heap.push (S0 w)).objs.size ∧ s.heap.objs.size ∉ [(s.heap.push (S0 w)).objs.size, l] ∧ s.heap.objs.size ≤ (s.heap.push (S0 w)).objs.size := by
  rw [Heap.size_push]
  refine ⟨Nat.ne_of_lt (Nat.lt_succ_of_lt lt), fun z => ?_, Nat.le_succ _⟩
  rcases List.mem_cons.mp z with z | z
  · exact absurd z (Nat.ne_of_lt (Nat.lt_succ_self _))
  · exact absurd (List.mem_singleton.mp z) (Nat.ne_of_gt lt)
/-- set(x), texts, x a list or a tuple -/
theorem set_texts {l : Addr} {its : Array Value} {xs : List Str} {Q : Value → Shared → Prop} (hh : A.handled = none) (hl : s.heap.IsList l its ∨ s.heap.IsTuple l its) (hx : StrsAre its.toList xs) (hb : xs.length + 1 < scanBound)
    (q : ∀ h' tk m, TS P w h' s.heap.objs.size m → m.length ≤ xs.length → (∀ x, x ∈ m ↔ x ∈ xs) → (∀ b o, s.heap.get? b = some o → h'.get? b = some o) → Q (.ref s.heap.objs.size) { s with heap := h', toks := tk }) :
    wpAny (model P w) A (call (.type "set") [.ref l]) Q E s := by
  have len : its.size = xs.length := by rw [← Array.length_toList]; exact hx.len_eq
  have val : ∀ i v, its[i]? = some v → ∃ x t, xs[i]? = some x ∧ v = Value.str x t := fun i v e => by
    rw [← Array.getElem?_toList] at e
    have hi : i < xs.length := by rw [← hx.len_eq]; exact (List.getElem?_eq_some_iff.mp e).1
    obtain ⟨t, et⟩ := hx.at (List.getElem?_eq_getElem hi)
    exact ⟨xs[i], t, List.getElem?_eq_getElem hi, Option.some.inj (e.symm.trans et)⟩
  have fin : ∀ (I : Addr), I = (s.heap.push (S0 w)).objs.size → I = s.heap.objs.size + 1 := fun I e => e.trans (Heap.size_push ..)
  have start : ∀ o', TS P w ((s.heap.push (S0 w)).push o') s.heap.objs.size [] := fun o' =>
    ⟨(#[], 0, .fresh 0 0 (!w.params.followText "set-order")), Heap.get?_push_of_some _ (Heap.get?_push_size _ rfl), TxOk.nil rfl, List.Pairwise.nil, by
      show _ ∨ (!w.params.followText "set-order") = true
      cases w.params.followText "set-order" <;> simp, List.nodup_nil⟩
  rcases hl with ⟨ol, e, c, n, d⟩ | ⟨ol, e, c, n, d⟩
  · refine set_call (Res := fun h' => ∃ m, TS P w h' s.heap.objs.size m ∧ m.length ≤ xs.length ∧ ∀ x, x ∈ m ↔ x ∈ xs) hh e c F.sub_list_set F.sub_list_frozenset (by decide) (fun {_ _ s1 _} e1 h => wpAny_pyIter_list (s := s1) ⟨ol, e1, c, n, d⟩ h) (fun A' R tk ha hR => ?_) fun h' tk ⟨m, r1, r2, r3⟩ k => q h' tk m r1 r2 r3 k
    have lt := Heap.lt_size e
    obtain ⟨ne, nin, up⟩ := places (w := w) lt
    refine upd_texts (s := { s with heap := (s.heap.push (S0 w)).push _, toks := tk }) ((Walks.list (A := A'.in1) (by simpa using ha) _ l ne its).toS) (S := s.heap.objs.size) nin len hb val (its.size - 0) 0 [] (by omega) (Nat.zero_le _)
      ⟨⟨_, Heap.get?_push_size _ rfl, rfl, rfl⟩, ⟨ol, lkp e, c, n, d⟩⟩ (start _) (Nat.zero_le _) (fun x => by simp) fun s' m mv r1 r2 r3 => ?_
    obtain ⟨es, k⟩ := moved_end rfl up (fun b o z => lkp z) mv
    rw [es]
    exact hR _ _ ⟨m, r1, by omega, r3⟩ k
  · refine set_call (Res := fun h' => ∃ m, TS P w h' s.heap.objs.size m ∧ m.length ≤ xs.length ∧ ∀ x, x ∈ m ↔ x ∈ xs) hh e c F.sub_tuple_set F.sub_tuple_frozenset (by decide) (fun {_ _ s1 _} e1 h => wpAny_pyIter_tuple (s := s1) ⟨ol, e1, c, n, d⟩ h) (fun A' R tk ha hR => ?_) fun h' tk ⟨m, r1, r2, r3⟩ k => q h' tk m r1 r2 r3 k
    have lt := Heap.lt_size e
    obtain ⟨ne, nin, up⟩ := places (w := w) lt
    refine upd_texts (s := { s with heap := (s.heap.push (S0 w)).push _, toks := tk }) ((Walks.tuple (A := A'.in1) (by simpa using ha) _ l ne its).toS) (S := s.heap.objs.size) nin len hb val (its.size - 0) 0 [] (by omega) (Nat.zero_le _)
      ⟨⟨_, Heap.get?_push_size _ rfl, rfl, rfl⟩, ⟨ol, lkp e, c, n, d⟩⟩ (start _) (Nat.zero_le _) (fun x => by simp) fun s' m mv r1 r2 r3 => ?_
    obtain ⟨es, k⟩ := moved_end rfl up (fun b o z => lkp z) mv
    rw [es]
    exact hR _ _ ⟨m, r1, by omega, r3⟩ k
/-- set(x), ints, x a list or a tuple -/
theorem set_ints {l : Addr} {its : Array Value} {xs : List Int} {Q : Value → Shared → Prop} (hh : A.handled = none) (hl : s.heap.IsList l its ∨ s.heap.IsTuple l its) (hx : IntsAre its.toList xs) (hb : xs.length + 1 < scanBound)
    (q : ∀ h' tk c, SetR w h' s.heap.objs.size (fun j => decide (j ∈ xs)) c → c ≤ xs.length → (∀ b o, s.heap.get? b = some o → h'.get? b = some o) → Q (.ref s.heap.objs.size) { s with heap := h', toks := tk }) :
    wpAny (model P w) A (call (.type "set") [.ref l]) Q E s := by
  have len : its.size = xs.length := by rw [← Array.length_toList]; exact hx.length
  have val : ∀ i v, its[i]? = some v → ∃ k t, xs[i]? = some k ∧ v = Value.int k t := fun i v e => by
    have hi : i < xs.length := by rw [← len]; exact (Array.getElem?_eq_some_iff.mp e).1
    obtain ⟨t, et⟩ := IntsAre.int_at hx i v (by rw [Array.getElem?_toList]; exact e)
    exact ⟨xs[i], t, List.getElem?_eq_getElem hi, by rw [et, List.getD_eq_getElem?_getD, List.getElem?_eq_getElem hi] <;> rfl⟩
  have start : ∀ o', SetR w ((s.heap.push (S0 w)).push o') s.heap.objs.size (fun j => decide (j ∈ xs.take 0)) 0 := fun o' => setR_new_at (Heap.get?_push_of_some _ (Heap.get?_push_size _ rfl))
  rcases hl with ⟨ol, e, c, n, d⟩ | ⟨ol, e, c, n, d⟩
  · refine set_call (Res := fun h' => ∃ c, SetR w h' s.heap.objs.size (fun j => decide (j ∈ xs)) c ∧ c ≤ xs.length) hh e c F.sub_list_set F.sub_list_frozenset (by decide) (fun {_ _ s1 _} e1 h => wpAny_pyIter_list (s := s1) ⟨ol, e1, c, n, d⟩ h) (fun A' R tk ha hR => ?_) fun h' tk ⟨m, r1, r2⟩ k => q h' tk m r1 r2 k
    have lt := Heap.lt_size e
    obtain ⟨ne, nin, up⟩ := places (w := w) lt
    refine set_update_ints (s := { s with heap := (s.heap.push (S0 w)).push _, toks := tk }) ((Walks.list (A := A'.in1) (by simpa using ha) _ l ne its).toS) s.heap.objs.size nin xs len hb val (its.size - 0) 0 (by omega) (Nat.zero_le _)
      ⟨⟨_, Heap.get?_push_size _ rfl, rfl, rfl⟩, ⟨ol, lkp e, c, n, d⟩⟩ ⟨0, Nat.le_refl 0, start _⟩ fun s' c' mv r2 r1 => ?_
    obtain ⟨es, k⟩ := moved_end rfl up (fun b o z => lkp z) mv
    rw [es]
    exact hR _ _ ⟨c', r1, by omega⟩ k
  · refine set_call (Res := fun h' => ∃ c, SetR w h' s.heap.objs.size (fun j => decide (j ∈ xs)) c ∧ c ≤ xs.length) hh e c F.sub_tuple_set F.sub_tuple_frozenset (by decide) (fun {_ _ s1 _} e1 h => wpAny_pyIter_tuple (s := s1) ⟨ol, e1, c, n, d⟩ h) (fun A' R tk ha hR => ?_) fun h' tk ⟨m, r1, r2⟩ k => q h' tk m r1 r2 k
    have lt := Heap.lt_size e
    obtain ⟨ne, nin, up⟩ := places (w := w) lt
    refine set_update_ints (s := { s with heap := (s.heap.push (S0 w)).push _, toks := tk }) ((Walks.tuple (A := A'.in1) (by simpa using ha) _ l ne its).toS) s.heap.objs.size nin xs len hb val (its.size - 0) 0 (by omega) (Nat.zero_le _)
      ⟨⟨_, Heap.get?_push_size _ rfl, rfl, rfl⟩, ⟨ol, lkp e, c, n, d⟩⟩ ⟨0, Nat.le_refl 0, start _⟩ fun s' c' mv r2 r1 => ?_
    obtain ⟨es, k⟩ := moved_end rfl up (fun b o z => lkp z) mv
    rw [es]
    exact hR _ _ ⟨c', r1, by omega⟩ k
end
end St

namespace St
open PySem PySem.Spec PyProof.Rows L2 PySem.Froz
/-- the set of the texts m -/
def SetT (P : Program) (w : World) (a : Addr) (m : List Str) : HO := .ext fun h => TS P w h a m
theorem setT_new {P : Program} {w : World} {H : Hp} {h : Heap} {a : Addr} {m : List Str} (R : TS P w h a m) : ObjOk P w H h a (SetT P w a m) := by
  have ⟨D, e, _⟩ := R
  exact ⟨R, ⟨_, e⟩, fun h1 h2 p k => TS.at p k⟩
section
variable {X : Cx}
/-- what a list or a tuple holds -/
def SqX (K : PySem.W.Frag) (H : Hp) (a : Addr) (xs : List V) : Prop := SqL K H a xs ∨ SqT K H a xs
theorem inv_any {pins : List (Addr × Obj)} {σ : L2.St} {H : Hp} {s : Shared} {a : Addr} {xs : List V} (I : Inv X pins σ H s) (h : SqX X.K H a xs) : ∃ its : List Value, Vals xs its ∧ (s.heap.IsList a its.toArray ∨ s.heap.IsTuple a its.toArray) := by
  rcases h with h | h
  · obtain ⟨its, r, l, _⟩ := I.list h
    exact ⟨its, r, .inl l.isList⟩
  · obtain ⟨its, r, l, _⟩ := I.tuple h
    exact ⟨its, r, .inr l⟩
def rSetT (K : PySem.W.Frag) (P : Program) (w : World) : List V → Hp → VK → Prop := fun xs H Q => ∃ (l : Addr) (ns : List Str), xs = [.ref l] ∧ SqX K H l (ns.map V.str) ∧ ns.length ≤ 1000 ∧
  ∀ a m, H a = none → m.Nodup → m.length ≤ ns.length → (∀ x, x ∈ m ↔ x ∈ ns) → Q (.ref a) (upd H a (SetT P w a m))
theorem cr_setT (hc : X.calm = true) : CallR X (.type "set") (rSetT X.K X.prog X.w) := by
  intro pins s σ H xs us Q I r h
  obtain ⟨l, ns, rfl, hl, hb, q⟩ := h
  rw [Vals.ref1 r]
  obtain ⟨its, rv, hi⟩ := inv_any I hl
  refine set_texts (xs := ns) (I.ok.hd hc) hi (by simpa using rv.strs) (Nat.lt_of_le_of_lt (Nat.succ_le_succ hb) (by decide)) fun h' tk m R ml mm k => ?_
  obtain ⟨D, e, F, a3, a4, nd⟩ := id R
  exact ⟨.ref s.heap.objs.size, _, I.laid (t' := tk) k (Nat.le_refl _) (setT_new R), rfl, q _ m (I.hok.fresh (Nat.le_refl _)) nd ml mm⟩
def rSetI (K : PySem.W.Frag) (w : World) : List V → Hp → VK → Prop := fun xs H Q => ∃ (l : Addr) (ns : List Int), xs = [.ref l] ∧ SqX K H l (ns.map V.int) ∧ ns.length ≤ 1000 ∧
  ∀ a c, H a = none → c ≤ ns.length → Q (.ref a) (upd H a (SetO w a (fun j => decide (j ∈ ns)) c))
theorem cr_setI (hc : X.calm = true) : CallR X (.type "set") (rSetI X.K X.w) := by
  intro pins s σ H xs us Q I r h
  obtain ⟨l, ns, rfl, hl, hb, q⟩ := h
  rw [Vals.ref1 r]
  obtain ⟨its, rv, hi⟩ := inv_any I hl
  refine set_ints (xs := ns) (I.ok.hd hc) hi (by simpa using ints_of_vals rv) (Nat.lt_of_le_of_lt (Nat.succ_le_succ hb) (by decide)) fun h' tk c R cl k => ?_
  exact ⟨.ref s.heap.objs.size, _, I.laid (t' := tk) k (Nat.le_refl _) (setO_new R), rfl, q _ c (I.hok.fresh (Nat.le_refl _)) cl⟩
/-- sorted of a set of texts -/
def rSortT (P : Program) (w : World) : List V → Hp → VK → Prop := fun xs H Q => ∃ (a : Addr) (m : List Str), xs = [.ref a] ∧ H a = some (SetT P w a m) ∧ m.length ≤ 1000 ∧
  ∀ ys p, ys.Perm m → sortedS ys = true → H p = none → Q (.ref p) (upd H p (.lst (ys.map V.str)))
theorem strs_of : ∀ l : List Value, (∀ v ∈ l, ∃ x t, v = Value.str x t) → ∃ xs, StrsAre l xs
  | [], _ => ⟨[], .nil⟩
  | v :: l, h => by
    obtain ⟨x, t, rfl⟩ := h v List.mem_cons_self
    obtain ⟨xs, r⟩ := strs_of l fun u hu => h u (List.mem_cons_of_mem _ hu)
    exact ⟨x :: xs, .cons x t r⟩
theorem strs_vals : ∀ {l : List Value} {xs : List Str}, StrsAre l xs → ∀ x, x ∈ xs ↔ ∃ t, Value.str x t ∈ l
  | _, _, .nil => fun x => by simp
  | _, _, .cons y t r => fun x => by
    rw [List.mem_cons, strs_vals r x]
    constructor
    · rintro (rfl | ⟨u, hu⟩)
      · exact ⟨t, List.mem_cons_self⟩
      · exact ⟨u, List.mem_cons_of_mem _ hu⟩
    · rintro ⟨u, hu⟩
      rcases List.mem_cons.mp hu with z | z
      · cases z; exact .inl rfl
      · exact .inr ⟨u, z⟩
theorem perm_of : ∀ {b a : List Str}, b.Nodup → a.length = b.length → (∀ x, x ∈ b → x ∈ a) → a.Perm b
  | [], a, _, hl, _ => by
    obtain rfl : a = [] := List.length_eq_zero_iff.mp hl
    exact .refl _
  | x :: b, a, nd, hl, h => by
    obtain ⟨n1, n2⟩ := List.nodup_cons.mp nd
    have hx : x ∈ a := h x List.mem_cons_self
    have pe := List.perm_cons_erase hx
    refine pe.trans (.cons x (perm_of n2 ?_ fun y hy => ?_))
    · have := pe.length_eq
      rw [List.length_cons] at this hl
      omega
    · have ne : y ≠ x := fun z => n1 (z ▸ hy)
      exact (List.mem_erase_of_ne ne).mpr (h y (List.mem_cons_of_mem _ hy))
theorem cr_sortT (hc : X.calm = true) : CallR X (.builtin "sorted") (rSortT X.prog X.w) := by
  intro pins s σ H xs us Q I r h
  obtain ⟨a, m, rfl, ha, hb, q⟩ := h
  rw [Vals.ref1 r]
  obtain ⟨⟨es, ep, t⟩, e, F, ris, led, nd⟩ := id (show TS X.prog X.w s.heap a m from (I.hok a _ ha).1)
  have sz : es.size = m.length := F.sz
  have room : es.size < scanBound := by rw [sz]; exact Nat.lt_of_le_of_lt hb (by decide)
  refine Calls.call_function_entry kind_sorted plain_sorted entry_sorted (args_sorted1 _) ?_; unfold Builtin.«sorted»
  refine wpAny_bind (m := checkCount "sorted" 1 1 _) (wpAny_pure (wpAny_bind (collect_set (A := X.A.in1) (I.ok.hd hc) ⟨_, e, rfl, rfl⟩ F.fit room ris led fun s1 vs k1 z1 g1 o1 pm => ?_)))
  have vl : vs.length = m.length := by rw [pm.length_eq, List.length_map, Array.length_toList, sz]
  obtain ⟨ss, hS⟩ := strs_of vs fun v hv => by
    obtain ⟨x, hx, rfl⟩ := List.mem_map.mp (pm.mem_iff.mp hv)
    obtain ⟨⟨k, hk, _⟩, _⟩ := F.el x hx
    obtain ⟨u, hu⟩ := Value.isStrOf_shape (show Value.isStrOf k x.2 = true from hk)
    exact ⟨k, u, hu⟩
  have sm : ss.Perm m := perm_of nd (by rw [← hS.len_eq, vl]) fun x hx => by
    obtain ⟨y, hy, hk⟩ := (F.mem x).mp hx
    obtain ⟨u, hu⟩ := Value.isStrOf_shape (show Value.isStrOf x y.2 = true from hk)
    exact (strs_vals hS x).mpr ⟨u, hu ▸ pm.mem_iff.mpr (List.mem_map.mpr ⟨y, hy, rfl⟩)⟩
  have line : vs.length ≤ sizeLine := by rw [vl, sizeLine_eq]; omega
  refine wpAny_bind (wpAny_newList ?_ line)
  have hoL : (s1.heap.push (seqObj "list" vs.toArray 0)).get? s1.heap.objs.size = some (seqObj "list" vs.toArray 0) := Heap.get?_push_size _ rfl
  refine wpAny_bind (wpAny_holding (wpAny_call_entry PyProof.Rows.slot_list_sort ⟨_, hoL, rfl⟩ PyProof.Rows.entry_list_sort (list_sort_treeKAny strKind_oneLt hoL hS.keysOf (fun v1 v2 rest z => keyKind_strs (by rw [← z]; exact hS)) line fun st hp hs => ⟨_, rfl, ?_⟩) (PyProof.Rows.args_list_sort _)))
  obtain ⟨ys, y1, y2, y3⟩ := sorted_out_str hS hp hs
  obtain ⟨c, hcx⟩ := sortedHeap_at (vs := vs) (out := (arrOf st).map (·.2)) hoL
  have old : ∀ b u, s.heap.get? b = some u → (sortedHeap (s1.heap.push (seqObj "list" vs.toArray 0)) s1.heap.objs.size vs ((arrOf st).map (·.2))).get? b = some u := fun b u eb => by
    have q1 := k1 b u eb
    rw [sortedHeap_old (Nat.ne_of_lt (Heap.lt_size q1)) (by rw [size_push']; exact Nat.lt_succ_of_lt (Heap.lt_size q1))]
    exact Heap.get?_push_of_some _ q1
  have zl : (ys.map V.str).length ≤ sizeLine := by rw [List.length_map, (y2.trans sm).length_eq, sizeLine_eq]; omega
  have hn : H s1.heap.objs.size = none := I.hok.fresh z1
  have J : Inv X pins σ (upd H s1.heap.objs.size (.lst (ys.map V.str))) { s with heap := sortedHeap (s1.heap.push (seqObj "list" vs.toArray 0)) s1.heap.objs.size vs ((arrOf st).map (·.2)), gens := s1.gens, drawn := s1.drawn, toks := s1.toks } :=
    I.call (ch := []) (Un.laid old z1 hn) (I.hok.laid old z1 ⟨zl, ((arrOf st).map (·.2)).toList, c, vals_of_strs y1, hcx⟩) (by rw [g1]; exact I.bare) (fun _ z => nomatch z)
  refine wpAny_pure ⟨_, rfl, .ref s1.heap.objs.size, _, ?_, rfl, q ys _ (y2.trans sm) y3 hn⟩
  cases s1; cases s; dsimp only at o1; subst o1
  exact J
end
end St

namespace Hb
open PySem PySem.Spec PyProof.Rows L2
/-! ### heaps -/
theorem same_new {H : Hp} {p : Addr} (h : H p = none) (o : HO) : Same H (upd H p o) := fun b u q => by
  rw [upd_ne (ne_of_none q h)]
  exact q
/-- a new object -/
theorem new_at {H : Hp} {p : Addr} {o : HO} {G : Hp → Prop} (h : H p = none) (k : ∀ H', Same H H' → H' p = some o → G H') : G (upd H p o) := k _ (same_new h o) upd_same
/-- a new tuple, a new list as the value of a display -/
theorem tup_at {H : Hp} {xs : List V} {Q : VK} (hl : xs.length ≤ 1000) (k : ∀ p H', H p = none → Same H H' → H' p = some (.tup xs) → Q (.ref p) H') : xs.length ≤ sizeLine ∧ ∀ p, H p = none → Q (.ref p) (upd H p (.tup xs)) :=
  ⟨Nat.le_trans hl (by decide), fun p hp => k p _ hp (same_new hp _) upd_same⟩
theorem lst_at {H : Hp} {xs : List V} {Q : VK} (hl : xs.length ≤ 1000) (k : ∀ p H', H p = none → Same H H' → H' p = some (.lst xs) → Q (.ref p) H') : xs.length ≤ sizeLine ∧ ∀ p, H p = none → Q (.ref p) (upd H p (.lst xs)) :=
  ⟨Nat.le_trans hl (by decide), fun p hp => k p _ hp (same_new hp _) upd_same⟩
/-- all but the object at p is as it was -/
def Kept (p : Addr) (H H' : Hp) : Prop := ∀ b o, H b = some o → b ≠ p → H' b = some o
theorem Same.kept {H H' : Hp} {p : Addr} (h : Same H H') : Kept p H H' := fun b o e _ => h b o e
theorem Kept.refl (p : Addr) (H : Hp) : Kept p H H := fun _ _ h _ => h
theorem Kept.trans {p : Addr} {H H1 H2 : Hp} (a : Kept p H H1) (b : Kept p H1 H2) : Kept p H H2 := fun c o h n => b c o (a c o h n) n
theorem kept_upd {p : Addr} {H : Hp} {o : HO} : Kept p H (upd H p o) := fun b u e n => by rw [upd_ne n]; exact e
/-- a tuple stays where the list at p changes -/
theorem Kept.tup {p t : Addr} {H H' : Hp} {xs ys : List V} (k : Kept p H H') (hp : H p = some (.lst ys)) (h : H t = some (.tup xs)) : H' t = some (.tup xs) := k t _ h (ne_of h hp (by intro z; cases z))

/-! ### tests -/
theorem iteD {c A B : Prop} [Decidable c] (h1 : c → A) (h2 : ¬ c → B) : if decide c = true then A else B := by
  by_cases h : c
  · rw [decide_eq_true h]
    exact iteT (h1 h)
  · rw [decide_eq_false h]
    exact iteF (h2 h)
theorem iteN {c A B : Prop} [Decidable c] (h1 : ¬ c → A) (h2 : c → B) : if (!decide c) = true then A else B := by
  by_cases h : c
  · rw [decide_eq_true h]
    exact iteF (h2 h)
  · rw [decide_eq_false h]
    exact iteT (h1 h)
theorem divw {i j : Int} (h0 : 0 < j) (h : j < 2 ^ 100) : CDivW i j := wide_div (b := 100) h0 (by omega) (by decide) (by decide)

/-! ### the defs of a text, by their promises -/
structure Cl (P : Program) (w : World) (K : PySem.W.Frag) (mg : Str → Option Value) (base : Heap) (x : Str) (ps : List Str) (dvs : List V) (lv : Nat) (sp : Sp) : Prop where
  ex : ∃ (f : Addr) (fd : FuncData) (ds : List Value), FnOk P w K mg base CX0 lv f fd ps sp ∧ mg x = some (.ref f) ∧ PySem.W.keepIn K (.ref f) = true ∧ Binds K fd ps ds ∧ Vals dvs ds
section
variable {X : Cx} {ps : List Str} {dvs : List V} {lv : Nat} {sp : Sp} {x : Str} {p pos : Pos} {e : Expr} {es : List Expr} {t : TA}
theorem pe_use (C : Cl X.prog X.w X.K X.mg X.base x ps dvs lv sp) (hr : Room lv X.A) (hg : Gl X x) (ha : PA X (e :: es) t) (hdb : (x == ("__debug__" : Str)) = false := by decide)
    (he : starEach (e :: es) X.env = (false, eval e X.env) :: starEach es X.env := by rfl) (hpl : (backTo pos (starEach es X.env)).any (·.1) = false := by rfl) : PE X (.Call (.Name x p) (e :: es) [] pos) (tCall sp dvs E0 t) := by
  obtain ⟨f, fd, ds, F, hm, hk, hb, hd⟩ := C.ex
  exact pe_call F hr hg hm hk hb hd pass0 ha hdb he hpl
theorem pe_use0 (C : Cl X.prog X.w X.K X.mg X.base x ps dvs lv sp) (hr : Room lv X.A) (hg : Gl X x) (hdb : (x == ("__debug__" : Str)) = false := by decide) : PE X (.Call (.Name x p) [] [] pos) (tCall sp dvs E0 tNil) := by
  obtain ⟨f, fd, ds, F, hm, hk, hb, hd⟩ := C.ex
  exact pe_call0 F hr hg hm hk hb hd pass0 hdb
end
/-- f(k = v, ..) without a value by place -/
structure ClK (P : Program) (w : World) (K : PySem.W.Frag) (mg : Str → Option Value) (base : Heap) (x : Str) (ps : List Str) (n : Nat) (ks : List Str) (gV : List V → List V → List V) (lv : Nat) (sp : Sp) : Prop where
  ex : ∃ (f : Addr) (fd : FuncData) (g : List Value → List Value → List Value), FnOk P w K mg base CX0 lv f fd ps sp ∧ mg x = some (.ref f) ∧ PySem.W.keepIn K (.ref f) = true ∧ KBn K fd ps n ks g gV
section
variable {X : Cx} {ps ks : List Str} {n : Nat} {gV : List V → List V → List V} {lv : Nat} {sp : Sp} {x : Str} {p pos : Pos} {e : Expr} {es : List Expr} {t tk : TA} {kws : List Keyword}
theorem pe_useK0 (C : ClK X.prog X.w X.K X.mg X.base x ps 0 ks gV lv sp) (hr : Room lv X.A) (hg : Gl X x) (hkw : PK X kws tk) (hall : (backToKw pos (keywordEach kws X.env)).all (·.1.isSome) = true := by rfl) (hks : (backToKw pos (keywordEach kws X.env)).filterMap (·.1) = ks := by rfl)
    (hdb : (x == ("__debug__" : Str)) = false := by decide) (hpl : ((backTo pos (starEach [] X.env)).any (·.1) || (backToKw pos (keywordEach kws X.env)).any (·.1.isNone)) = false := by rfl) :
    PE X (.Call (.Name x p) [] kws pos) (tCallN 0 ks.length sp gV E0 tNil tk) := by
  obtain ⟨f, fd, g, F, hm, hk, hb⟩ := C.ex
  refine ⟨fun pins s σ H Q I h => ?_⟩
  refine wpAny_Call_Name_kw (ld_glob I hg hm ?_ hdb)
  refine PySem.W.callWith_KW0 (h₀ := X.base) I.ok.mod.kin hk hall ?_ hpl
  refine thn (hkw.run pos pins s σ H _ I h) fun ws s2 ⟨zs, H2, I2, rz, l1, l2, q2⟩ => ⟨I2.kIn, ?_⟩
  rw [hks]
  exact run_fnN (us := []) (vs := []) F hr hb pass0 I2 .nil rz rfl l2 q2
theorem pe_useK (C : ClK X.prog X.w X.K X.mg X.base x ps n ks gV lv sp) (hr : Room lv X.A) (hg : Gl X x) (ha : PA X (e :: es) t) (hkw : PK X kws tk) (hall : (backToKw pos (keywordEach kws X.env)).all (·.1.isSome) = true := by rfl)
    (hks : (backToKw pos (keywordEach kws X.env)).filterMap (·.1) = ks := by rfl)
    (hdb : (x == ("__debug__" : Str)) = false := by decide) (he : starEach (e :: es) X.env = (false, eval e X.env) :: starEach es X.env := by rfl)
    (hpl : ((backTo pos (starEach (e :: es) X.env)).any (·.1) || (backToKw pos (keywordEach kws X.env)).any (·.1.isNone)) = false := by rfl) :
    PE X (.Call (.Name x p) (e :: es) kws pos) (tCallN n ks.length sp gV E0 t tk) := by
  obtain ⟨f, fd, g, F, hm, hk, hb⟩ := C.ex
  exact pe_callN F hr hg hm hk hb pass0 ha hkw hall hks hdb he hpl
end
/-- positional and keyword arguments that fill all parameters of a def with defaults -/
theorem kb_full {K : PySem.W.Frag} {x qual : Str} {params : Arguments} {body : List Stmt} {scope : Scope} {dvs : List V} {f : Addr} {fd : FuncData} {ps : List Str} (F : FunD K x qual params body scope dvs [] f fd) (n : Nat) (ks : List Str) (g : {α : Type} → List α → List α → List α → List α) (hd : dvs ≠ [])
    (hrel : ∀ {vs ds zs : List V} {us its ws : List Value}, Vals vs us → Vals ds its → Vals zs ws → Vals (g vs ds zs) (g us its ws))
    (h : ∀ (T : Addr) (kV doc pm : Value) (an : Option Addr) (cdv ct : Value) (us its ws : List Value), us.length = n → its.length = dvs.length → ws.length = ks.length →
      ∃ k, bindArgs (PySem.W.fnOf x qual params body scope (.ref T) kV doc pm an cdv ct) ⟨us, ks.zip ws⟩ = seqItems? (.ref T) >>= k ∧ k (some its.toArray) = pure (ps.zip (g us its ws))) :
    ∃ its : List Value, KBn K fd ps n ks (fun us ws => g us its ws) (fun vs zs => g vs dvs zs) := by
  obtain ⟨oc, od, dV, kV, doc, pm, an, cdv, ct, osl, rfl, lk, hcd, hD, hK⟩ := F.ex
  rcases hD with ⟨e, _⟩ | ⟨_, T, o, its, m, rfl, lT, oT, rT⟩
  · exact absurd e hd
  · refine ⟨its, ⟨fun s us ws X l1 l2 => ?_, fun r1 r2 => hrel r1 rT r2⟩⟩
    obtain ⟨k, e1, e2⟩ := h T kV doc pm an cdv ct us its ws l1 rT.length.symm l2
    refine BindsTo.of_looks fun M => ?_
    rw [e1]
    exact looks_items X lT oT (.of_pure e2)
end Hb

namespace St
open PySem PySem.Spec PyProof.Rows L2 PySem.Froz
/-! ### lots: what sorted(set(..)) is -/
def sLt (a b : Str) : Prop := a.cps.toList < b.cps.toList
instance (a b : Str) : Decidable (sLt a b) := inferInstanceAs (Decidable (_ < _))
theorem sLt_irr (a : Str) : ¬ sLt a a := List.lt_irrefl _
theorem sLt_tr {a b c : Str} (h : sLt a b) (k : sLt b c) : sLt a c := List.lt_trans h k
theorem sLt_as {a b : Str} (h : sLt a b) : ¬ sLt b a := fun k => sLt_irr a (sLt_tr h k)
theorem sLt_eq {a b : Str} (h : ¬ sLt a b) (k : ¬ sLt b a) : a = b := by
  have e : a.cps.toList = b.cps.toList := List.le_antisymm (List.not_lt.mp k) (List.not_lt.mp h)
  cases a; cases b
  exact congrArg Str.mk (Array.toList_inj.mp e)
section
variable {α : Type} (lt : α → α → Prop) [DecidableRel lt] [DecidableEq α]
def ins (x : α) : List α → List α
  | [] => [x]
  | y :: r => if x = y then y :: r else if lt x y then x :: y :: r else y :: ins x r
def lotBy : List α → List α
  | [] => []
  | x :: r => ins lt x (lotBy r)
theorem mem_ins {x y : α} : ∀ {l : List α}, y ∈ ins lt x l ↔ y = x ∨ y ∈ l
  | [] => by simp [ins]
  | z :: r => by
    unfold ins
    split
    · rename_i h; subst h; simp
    · split
      · simp
      · rw [List.mem_cons, mem_ins (l := r), List.mem_cons]
        exact ⟨fun h => h.elim (fun h => .inr (.inl h)) fun h => h.elim .inl fun h => .inr (.inr h), fun h => h.elim (fun h => .inr (.inl h)) fun h => h.elim .inl fun h => .inr (.inr h)⟩
theorem mem_lotBy {y : α} : ∀ {l : List α}, y ∈ lotBy lt l ↔ y ∈ l
  | [] => Iff.rfl
  | x :: r => by rw [lotBy, mem_ins, mem_lotBy (l := r), List.mem_cons]
theorem asc_ins (tri : ∀ a b, ¬ lt a b → ¬ a = b → lt b a) (tr : ∀ a b c, lt a b → lt b c → lt a c) {x : α} : ∀ {l : List α}, l.Pairwise lt → (ins lt x l).Pairwise lt
  | [], _ => List.pairwise_singleton _ _
  | y :: r, h => by
    obtain ⟨h1, h2⟩ := List.pairwise_cons.mp h
    unfold ins
    split
    · exact h
    · rename_i ne
      split
      · rename_i lxy
        exact List.pairwise_cons.mpr ⟨fun z hz => (List.mem_cons.mp hz).elim (fun e => e ▸ lxy) fun hz => tr _ _ _ lxy (h1 z hz), h⟩
      · rename_i nl
        refine List.pairwise_cons.mpr ⟨fun z hz => ?_, asc_ins tri tr h2⟩
        rcases (mem_ins lt).mp hz with rfl | hz
        · exact tri _ _ nl ne
        · exact h1 z hz
theorem asc_lotBy (tri : ∀ a b, ¬ lt a b → ¬ a = b → lt b a) (tr : ∀ a b c, lt a b → lt b c → lt a c) : ∀ l : List α, (lotBy lt l).Pairwise lt
  | [] => .nil
  | x :: r => asc_ins lt tri tr (asc_lotBy tri tr r)
theorem len_ins (x : α) : ∀ l : List α, (ins lt x l).length ≤ l.length + 1
  | [] => Nat.le_refl _
  | y :: r => by
    unfold ins
    split
    · exact Nat.le_succ _
    · split
      · exact Nat.le_refl _
      · exact Nat.succ_le_succ (len_ins x r)
theorem len_lotBy : ∀ l : List α, (lotBy lt l).length ≤ l.length
  | [] => Nat.le_refl _
  | x :: r => Nat.le_trans (len_ins lt x _) (Nat.succ_le_succ (len_lotBy r))
theorem asc_eq (irr : ∀ a, ¬ lt a a) (tr : ∀ a b c, lt a b → lt b c → lt a c) : ∀ {l m : List α}, l.Pairwise lt → m.Pairwise lt → (∀ x, x ∈ l ↔ x ∈ m) → l = m
  | [], [], _, _, _ => rfl
  | [], y :: m, _, _, h => absurd ((h y).mpr List.mem_cons_self) (by simp)
  | x :: l, [], _, _, h => absurd ((h x).mp List.mem_cons_self) (by simp)
  | x :: l, y :: m, hl, hm, h => by
    obtain ⟨l1, l2⟩ := List.pairwise_cons.mp hl
    obtain ⟨m1, m2⟩ := List.pairwise_cons.mp hm
    have e : x = y := by
      rcases List.mem_cons.mp ((h x).mp List.mem_cons_self) with z | z
      · exact z
      · rcases List.mem_cons.mp ((h y).mpr List.mem_cons_self) with u | u
        · exact u.symm
        · exact absurd (tr _ _ _ (m1 x z) (l1 y u)) (irr _)
    subst e
    rw [asc_eq irr tr l2 m2 fun z => ?_]
    constructor
    · intro hz
      rcases List.mem_cons.mp ((h z).mp (List.mem_cons_of_mem _ hz)) with e | e
      · subst e; exact absurd (l1 z hz) (irr z)
      · exact e
    · intro hz
      rcases List.mem_cons.mp ((h z).mpr (List.mem_cons_of_mem _ hz)) with e | e
      · subst e; exact absurd (m1 z hz) (irr z)
      · exact e
end
/-- the lot of texts, of ints -/
def lotS (l : List Str) : List Str := lotBy sLt l
def lotI (l : List Int) : List Int := lotBy (· < ·) l
theorem mem_lotS {x : Str} {l : List Str} : x ∈ lotS l ↔ x ∈ l := mem_lotBy _
theorem mem_lotI {x : Int} {l : List Int} : x ∈ lotI l ↔ x ∈ l := mem_lotBy _
theorem asc_lotS (l : List Str) : (lotS l).Pairwise sLt := asc_lotBy _ (fun a b h k => Decidable.byContradiction fun z => k (sLt_eq h z)) (fun _ _ _ => sLt_tr) l
theorem asc_lotI (l : List Int) : (lotI l).Pairwise (· < ·) := asc_lotBy _ (fun a b h k => (Int.lt_trichotomy a b).elim (absurd · h) fun z => z.elim (absurd · k) id) (fun _ _ _ => Int.lt_trans) l
theorem len_lotS (l : List Str) : (lotS l).length ≤ l.length := len_lotBy _ l
theorem len_lotI (l : List Int) : (lotI l).length ≤ l.length := len_lotBy _ l
theorem lotS_eq {ys l : List Str} (h : ys.Pairwise sLt) (m : ∀ x, x ∈ ys ↔ x ∈ l) : ys = lotS l := asc_eq sLt sLt_irr (fun _ _ _ => sLt_tr) h (asc_lotS l) fun x => (m x).trans mem_lotS.symm
theorem lotI_eq {ys l : List Int} (h : ys.Pairwise (· < ·)) (m : ∀ x, x ∈ ys ↔ x ∈ l) : ys = lotI l := asc_eq (· < ·) (fun _ => Int.lt_irrefl _) (fun _ _ _ => Int.lt_trans) h (asc_lotI l) fun x => (m x).trans mem_lotI.symm
theorem lotS_congr {l m : List Str} (h : ∀ x, x ∈ l ↔ x ∈ m) : lotS l = lotS m := lotS_eq (asc_lotS l) fun x => mem_lotS.trans (h x)
theorem lotI_congr {l m : List Int} (h : ∀ x, x ∈ l ↔ x ∈ m) : lotI l = lotI m := lotI_eq (asc_lotI l) fun x => mem_lotI.trans (h x)
theorem lotS_idem (l : List Str) : lotS (lotS l) = lotS l := lotS_congr fun _ => mem_lotS
theorem asc_nodupS {l : List Str} (h : l.Pairwise sLt) : l.Nodup := List.Pairwise.imp (S := (· ≠ ·)) (fun {a b} (k : sLt a b) (z : a = b) => sLt_irr b (z ▸ k)) h
theorem ris_asc : ∀ {l : List Str} {p : Str}, risingS p l = true → (p :: l).Nodup → (p :: l).Pairwise sLt
  | [], p, _, _ => List.pairwise_singleton _ _
  | x :: r, p, h, nd => by
    obtain ⟨h1, h2⟩ := Bool.and_eq_true_iff.mp (show (!ltCps x.cps.toList p.cps.toList && risingS x r) = true from h)
    obtain ⟨n1, n2⟩ := List.nodup_cons.mp nd
    have a := ris_asc h2 n2
    rw [ltCps_eq, Bool.not_eq_true'] at h1
    have nl : ¬ sLt x p := of_decide_eq_false h1
    have lp : sLt p x := Decidable.byContradiction fun z => n1 (by rw [sLt_eq z nl]; exact List.mem_cons_self)
    exact List.pairwise_cons.mpr ⟨fun z hz => (List.mem_cons.mp hz).elim (fun e => e ▸ lp) fun hz => sLt_tr lp ((List.pairwise_cons.mp a).1 z hz), a⟩
theorem sorted_asc {l : List Str} (h : sortedS l = true) (nd : l.Nodup) : l.Pairwise sLt := match l, h, nd with
  | [], _, _ => .nil
  | _ :: _, h, nd => ris_asc h nd
/-! ### the rules of tuple(sorted(set(x))) -/
section
variable {X : Cx}
theorem cr_or {f : Value} {r1 r2 : List V → Hp → VK → Prop} (a : CallR X f r1) (b : CallR X f r2) : CallR X f (fun xs H Q => r1 xs H Q ∨ r2 xs H Q) := fun pins s σ H xs us Q I r h => h.elim (a pins s σ H xs us Q I r) (b pins s σ H xs us Q I r)
@[irreducible] def rSet (K : PySem.W.Frag) (P : Program) (w : World) : List V → Hp → VK → Prop := fun xs H Q => rSetT K P w xs H Q ∨ rSetI K w xs H Q
@[irreducible] def rSorted2 (P : Program) (w : World) : List V → Hp → VK → Prop := fun xs H Q => rSortT P w xs H Q ∨ rSortedSet w xs H Q
theorem cr_set (hc : X.calm = true) : CallR X (.type "set") (rSet X.K X.prog X.w) := by unfold rSet; exact cr_or (cr_setT hc) (cr_setI hc)
theorem cr_sorted2 (hc : X.calm = true) : CallR X (.builtin "sorted") (rSorted2 X.prog X.w) := by unfold rSorted2; exact cr_or (cr_sortT hc) (cr_sortedSet hc)
end
/-- the reading of tuple(sorted(set(x))) -/
theorem rd_lotS {K : PySem.W.Frag} {P : Program} {w : World} {H : Hp} {a : Addr} {ns : List Str} {Q : VK} (h : SqX K H a (ns.map V.str)) (hl : ns.length ≤ 1000) (q : ∀ p H', Same H H' → H' p = some (.tup ((lotS ns).map V.str)) → Q (.ref p) H') :
    rSet K P w [.ref a] H fun u H1 => rSorted2 P w [u] H1 fun z H2 => ∃ p ys, [z] = [V.ref p] ∧ ((SqL K H2 p ys ∧ ∀ l, H2 l = none → Q (.ref l) (upd H2 l (.tup ys))) ∨ (SqT K H2 p ys ∧ Q (.ref p) H2)) := by
  unfold rSet
  refine .inl ⟨a, ns, rfl, h, hl, fun b m hb nd ml mm => ?_⟩
  unfold rSorted2
  refine .inl ⟨b, m, rfl, upd_same, Nat.le_trans ml hl, fun ys p pm so hp => ⟨p, ys.map V.str, rfl, .inl ⟨SqL.of upd_same, fun l hn => ?_⟩⟩⟩
  have e : ys = lotS ns := lotS_eq (sorted_asc so (pm.nodup_iff.mpr nd)) fun x => pm.mem_iff.trans (mm x)
  rw [e] at hn ⊢
  have s1 : Same H (upd H b (SetT P w b m)) := fun c o e => by rw [upd_ne (ne_of_none e hb)]; exact e
  have s2 : Same (upd H b (SetT P w b m)) (upd (upd H b (SetT P w b m)) p (.lst ((lotS ns).map V.str))) := fun c o e => by rw [upd_ne (ne_of_none e hp)]; exact e
  have s3 : Same (upd (upd H b (SetT P w b m)) p (.lst ((lotS ns).map V.str))) (upd (upd (upd H b (SetT P w b m)) p (.lst ((lotS ns).map V.str))) l (.tup ((lotS ns).map V.str))) := fun c o e => by rw [upd_ne (ne_of_none e hn)]; exact e
  exact q l _ (fun c o e => s3 c o (s2 c o (s1 c o e))) upd_same
theorem rd_lotI {K : PySem.W.Frag} {P : Program} {w : World} {H : Hp} {a : Addr} {ns : List Int} {Q : VK} (h : SqX K H a (ns.map V.int)) (hl : ns.length < 64) (q : ∀ p H', Same H H' → H' p = some (.tup ((lotI ns).map V.int)) → Q (.ref p) H') :
    rSet K P w [.ref a] H fun u H1 => rSorted2 P w [u] H1 fun z H2 => ∃ p ys, [z] = [V.ref p] ∧ ((SqL K H2 p ys ∧ ∀ l, H2 l = none → Q (.ref l) (upd H2 l (.tup ys))) ∨ (SqT K H2 p ys ∧ Q (.ref p) H2)) := by
  unfold rSet
  refine .inr ⟨a, ns, rfl, h, Nat.le_trans (Nat.le_of_lt hl) (by decide), fun b c hb cl => ?_⟩
  unfold rSorted2
  refine .inr ⟨b, _, c, rfl, upd_same, Nat.lt_of_le_of_lt cl hl, fun ys p so mm _ hp => ⟨p, ys.map V.int, rfl, .inl ⟨SqL.of upd_same, fun l hn => ?_⟩⟩⟩
  have e : ys = lotI ns := lotI_eq so fun x => (mm x).trans decide_eq_true_iff
  rw [e] at hn ⊢
  have s1 : Same H (upd H b (SetO w b (fun j => decide (j ∈ ns)) c)) := fun d o e => by rw [upd_ne (ne_of_none e hb)]; exact e
  refine q l _ (fun d o e => ?_) upd_same
  have e1 := s1 d o e
  rw [upd_ne (ne_of_none (by rw [upd_ne (ne_of_none e1 hp)]; exact e1) hn), upd_ne (ne_of_none e1 hp)]
  exact e1
end St

/-! own classes of the text: made, their methods, their == -/
namespace Ow
open PySem PySem.Spec PyProof.Rows L2 Hb
/-- a class of the text, made by its __init__'s promise -/
structure Cm (P : Program) (w : World) (K : PySem.W.Frag) (mg : Str → Option Value) (base : Heap) (x : Str) (C : Addr) (ps : List Str) (lv : Nat) (sp : Sp) : Prop where
  ex : ∃ (f : Addr) (fd : FuncData), Mk K C f ∧ FnOk P w K mg base CX0 lv f fd ps sp ∧ mg x = some (.ref C) ∧ Binds K fd ps []
/-- a class made by keywords alone: its parameters behind self in the order of gV -/
structure CmK (P : Program) (w : World) (K : PySem.W.Frag) (mg : Str → Option Value) (base : Heap) (x : Str) (C : Addr) (ps ks : List Str) (gV : List V → List V → List V) (lv : Nat) (sp : Sp) : Prop where
  ex : ∃ (f : Addr) (fd : FuncData) (g : List Value → List Value → List Value), Mk K C f ∧ FnOk P w K mg base CX0 lv f fd ps sp ∧ mg x = some (.ref C) ∧ KBn K fd ps 1 ks g gV
/-- a method of an own class -/
structure Ch (P : Program) (w : World) (K : PySem.W.Frag) (mg : Str → Option Value) (base : Heap) (C : Addr) (m : Str) (ps : List Str) (dvs : List V) (lv : Nat) (sp : Sp) : Prop where
  ex : ∃ (f : Addr) (fd : FuncData) (ds : List Value), Meth K C m f ∧ FnOk P w K mg base CX0 lv f fd ps sp ∧ Binds K fd ps ds ∧ Vals dvs ds
structure ChK (P : Program) (w : World) (K : PySem.W.Frag) (mg : Str → Option Value) (base : Heap) (C : Addr) (m : Str) (ps ks : List Str) (gV : List V → List V → List V) (lv : Nat) (sp : Sp) : Prop where
  ex : ∃ (f : Addr) (fd : FuncData) (g : List Value → List Value → List Value), Meth K C m f ∧ FnOk P w K mg base CX0 lv f fd ps sp ∧ KBn K fd ps 1 ks g gV
section
variable {X : Cx} {C : Addr} {ps ks : List Str} {gV : List V → List V → List V} {dvs : List V} {lv : Nat} {sp : Sp} {x m : Str} {p pos apos : Pos} {e o : Expr} {es : List Expr} {kws : List Keyword} {t tk : TA} {ta : TE}
theorem pe_new (M : Cm X.prog X.w X.K X.mg X.base x C ps lv sp) (hr : Room (lv + 1) X.A) (hg : Gl X x) (ha : PA X (e :: es) t) (hdb : (x == ("__debug__" : Str)) = false := by decide)
    (he : starEach (e :: es) X.env = (false, eval e X.env) :: starEach es X.env := by rfl) (hpl : (backTo pos (starEach es X.env)).any (·.1) = false := by rfl) : PE X (.Call (.Name x p) (e :: es) [] pos) (tMake C sp [] E0 t) := by
  obtain ⟨f, fd, mk, F, hm, hb⟩ := M.ex
  exact pe_make mk F hr hg hm hb .nil pass0 ha hdb he hpl
theorem pe_newK (M : CmK X.prog X.w X.K X.mg X.base x C ps ks gV lv sp) (hr : Room (lv + 1) X.A) (hg : Gl X x) (hkw : PK X kws tk)
    (hall : (backToKw pos (keywordEach kws X.env)).all (·.1.isSome) = true := by rfl) (hks : (backToKw pos (keywordEach kws X.env)).filterMap (·.1) = ks := by rfl) (hdb : (x == ("__debug__" : Str)) = false := by decide)
    (hpl : ((backTo pos (starEach [] X.env)).any (·.1) || (backToKw pos (keywordEach kws X.env)).any (·.1.isNone)) = false := by rfl) : PE X (.Call (.Name x p) [] kws pos) (tMakeK C 0 ks.length sp gV E0 tNil tk) := by
  obtain ⟨f, fd, g, mk, F, hm, hb⟩ := M.ex
  exact pe_makeK0 mk F hr hg hm hb pass0 hkw hall hks hdb hpl
theorem pe_do {pl : Sem Bool} (M : Ch X.prog X.w X.K X.mg X.base C m ps dvs lv sp) (c : Cls X.K C) (hr : Room lv X.A) (ho : PE X o ta) (ha : PA X (e :: es) t)
    (hst : starEach (e :: es) X.env = (false, eval e X.env) :: starEach es X.env := by rfl) (hpl : (backTo pos (starEach es X.env)).any (·.1) = false := by rfl)
    (ht : eval (.Call (.Attribute o m apos) (e :: es) [] pos) X.env = (do
      let v ← eval o X.env
      standAt apos.atName
      let (f, first) ← holding [v] (getMethod v m pl)
      callWith pos f first (backTo pos (starEach (e :: es) X.env)) (backToKw pos (keywordEach [] X.env))) := by rfl) : PE X (.Call (.Attribute o m apos) (e :: es) [] pos) (tMeth C m sp dvs E0 ta t) := by
  obtain ⟨f, fd, ds, hm, F, hb, hd⟩ := M.ex
  exact pe_meth ho c hm F hr hb hd pass0 ha hst hpl ht
theorem pe_do0 {pl : Sem Bool} (M : Ch X.prog X.w X.K X.mg X.base C m ps dvs lv sp) (c : Cls X.K C) (hr : Room lv X.A) (ho : PE X o ta)
    (ht : eval (.Call (.Attribute o m apos) [] [] pos) X.env = (do
      let v ← eval o X.env
      standAt apos.atName
      let (f, first) ← holding [v] (getMethod v m pl)
      callWith pos f first (backTo pos (starEach [] X.env)) (backToKw pos (keywordEach [] X.env))) := by rfl) : PE X (.Call (.Attribute o m apos) [] [] pos) (tMeth C m sp dvs E0 ta tNil) := by
  obtain ⟨f, fd, ds, hm, F, hb, hd⟩ := M.ex
  exact pe_meth0 ho c hm F hr hb hd pass0 ht
/-- o.m(k = v, ..) -/
def tMethK (C : Addr) (m : Str) (n : Nat) (sp : Sp) (gV : List V → List V → List V) (ta : TE) (tk : TA) : TE := fun σ H Q => ta σ H fun x H1 => ∃ a dx fs, x = .ref a ∧ H1 a = some (.ins C dx fs) ∧ fs.lookup m = none ∧ tk σ H1 fun zs H2 => zs.length = n ∧ sp (gV [x] zs) H2 Q E0
theorem pe_doK {pl : Sem Bool} (M : ChK X.prog X.w X.K X.mg X.base C m ps ks gV lv sp) (c : Cls X.K C) (hr : Room lv X.A) (ho : PE X o ta) (hkw : PK X kws tk)
    (hall : (backToKw pos (keywordEach kws X.env)).all (·.1.isSome) = true := by rfl) (hks : (backToKw pos (keywordEach kws X.env)).filterMap (·.1) = ks := by rfl)
    (hpl : ((backTo pos (starEach [] X.env)).any (·.1) || (backToKw pos (keywordEach kws X.env)).any (·.1.isNone)) = false := by rfl)
    (ht : eval (.Call (.Attribute o m apos) [] kws pos) X.env = (do
      let v ← eval o X.env
      standAt apos.atName
      let (f, first) ← holding [v] (getMethod v m pl)
      callWith pos f first (backTo pos (starEach [] X.env)) (backToKw pos (keywordEach kws X.env))) := by rfl) : PE X (.Call (.Attribute o m apos) [] kws pos) (tMethK C m ks.length sp gV ta tk) := by
  obtain ⟨f, fd, g, hm, F, hb⟩ := M.ex
  refine ⟨fun pins s σ H Q I h => ?_⟩
  refine PySem.W.methodCall_KW (pl := pl) (thn (ho.run pins s σ H _ I h) fun u s1 ⟨x, H1, I1, rx, a, dx, fs, ex, ea, l, q⟩ => ?_) ht
  subst ex; obtain rfl : u = Value.ref a := rx
  refine getmeth_ok I1 ea c hm l ?_
  refine PySem.W.callWith_KW0 (first := [.ref a]) (h₀ := X.base) I1.ok.mod.kin hm.kp hall (thn (hkw.run pos pins s1 σ H1 _ I1 q) fun ws s2 ⟨zs, H2, I2, rz, l1, q2⟩ => ⟨I2.kIn, ?_⟩) hpl
  rw [hks]
  exact run_fnN (us := [.ref a]) (vs := [.ref a]) F hr hb pass0 I2 (.cons rfl .nil) rz rfl l1 q2
end
/-! ### == by an own __eq__, whatever it answers -/
def rEqOwn (C : Addr) (sp : Sp) : R2 := fun x y H Q => ∃ a dx fs b, x = .ref a ∧ y = .ref b ∧ H a = some (.ins C dx fs) ∧ ((∃ dy gs, H b = some (.ins C dy gs)) ∨ ∃ xs, H b = some (.lst xs)) ∧ sp [x, y] H (fun v H' => (∃ k, v = .bl k) ∧ Q v H') E0
theorem op_eqOwn {X : Cx} {C : Addr} {ps : List Str} {lv : Nat} {sp : Sp} (M : Ch X.prog X.w X.K X.mg X.base C "__eq__" ps [] lv sp) (kl : PySem.W.subIn X.K (.type "list") (.ref C) = some false) (hr : Room lv X.A) : OpR X (compareOp .Eq) (rEqOwn C sp) := by
  obtain ⟨f, fd, ds, hm, F, hb, hd⟩ := M.ex
  cases hd
  intro pins s σ H x y v u Q I rx ry h
  obtain ⟨a, dx, fs, b, rfl, rfl, ha, hy, q⟩ := h
  cases rx; cases ry
  obtain ⟨mA, J, _⟩ := ins_get I.hok ha
  obtain ⟨od, J, _⟩ := J.look
  obtain ⟨m, hF⟩ := I.fr
  have run : wpAny (model X.prog X.w) X.A (call (.ref f) [.ref a, .ref b]) (PySem.W.CmpBack (EP X pins σ Q)) X.xe s := by
    have hl := F.len _ _ _ _ q
    have bb := hb s [.ref a, .ref b] I.kIn (by simpa using hl)
    refine wpAny_call (codeAny_mono (F.run X.A X.stack s H ⟨[.ref a, .ref b], []⟩ [.ref a, .ref b] [.ref a, .ref b] _ E0 hr I.env0 (by simpa using bb) (.cons rfl (.cons rfl .nil)) q) fun r s' z => ?_)
    rcases r with e | (_ | _ | _ | w)
    · exact pass0 pins σ H s e s' I z
    · exact False.elim z
    · exact False.elim z
    · exact False.elim z
    · obtain ⟨v, H', I', rv, ⟨k, rfl⟩, q'⟩ := I.after z
      obtain rfl : w = Value.bool k := rv
      exact ⟨.bl k, H', I', rfl, q'⟩
  show wpAny (model X.prog X.w) X.A (richCompare .Eq (.ref a) (.ref b)) (EP X pins σ Q) X.xe s
  rcases hy with ⟨dy, gs, hy⟩ | ⟨xs, hy⟩
  · obtain ⟨mB, J', _⟩ := ins_get I.hok hy
    obtain ⟨od', J', _⟩ := J'.look
    exact PySem.W.cmp_K (op := .Eq) (tb := .ref C) hr.units0 hF I.ok.mod.kin J J'.type (by simp [PySem.W.notFirst]) hm.at_ hm.fn run
  · obtain ⟨z, its, n, r, e⟩ := I.hok b _ hy
    exact PySem.W.cmp_K (op := .Eq) (tb := .type "list") hr.units0 hF I.ok.mod.kin J (fun A Q E s' k q => wpAny_typeOf (T := "list") ⟨_, k _ _ e, rfl⟩ q) (by simp [PySem.W.notFirst, kl]) hm.at_ hm.fn run
/-! ### xs[::n], n reckoned as -1 -/
theorem pe_rev {X : Cx} {e st : Expr} {te ts : TE} {p3 pos : Pos} (he : PE X e te) (hs : PE X st ts) (hN : ∀ σ H (Q : VK), Q (.int (-1)) H → ts σ H Q) :
    PE X (.Subscript e (.Slice none none (some st) p3) pos) (fun σ H Q => te σ H fun x H1 => ∃ a xs, x = .ref a ∧ SqL X.K H1 a xs ∧ ∀ p, H1 p = none → Q (.ref p) (upd H1 p (.lst xs.reverse))) := by
  refine ⟨fun pins s σ H Q I h => Subscript_ (thn (he.run pins s σ H _ I h) fun v s1 ⟨x, H1, I1, r1, a, xs, ex, hx, q⟩ => ?_)⟩
  subst ex; cases r1
  refine wpAny_Slice (thn (po_none.run pins s1 σ H1 (fun o H2 => o = none ∧ H2 = H1) I1 ⟨rfl, rfl⟩) fun vl s2 ⟨l, H2, I2, pl, el, e2⟩ => ?_)
  subst el e2
  refine thn (po_none.run pins s2 σ H2 (fun o H3 => o = none ∧ H3 = H2) I2 ⟨rfl, rfl⟩) fun vu s3 ⟨u, H3, I3, pu, eu, e3⟩ => ?_
  subst eu e3
  refine thn ((po_some hs).run pins s3 σ H3 (fun o H4 => o = some (-1) ∧ H4 = H3) I3 (hN σ H3 _ ⟨-1, rfl, rfl, rfl⟩)) fun vs s4 ⟨o, H4, I4, ps, eo, e4⟩ => ?_
  subst eo e4
  have I5 : Inv X pins σ H4 { s4 with heap := s4.heap.push { cls := .type "slice", data := .fields #[vl, vu, vs] } } := I4.kept (t' := s4.toks) fun b ob q => Heap.get?_push_of_some _ q
  obtain ⟨its, r, ht, hz⟩ := I5.list hx
  have hlen := r.length
  show wpAny (model X.prog X.w) X.A (subscriptTail e (.Slice none none (some st) p3) (.ref a) (.ref s4.heap.objs.size)) (EP X pins σ Q) X.xe { s4 with heap := s4.heap.push { cls := .type "slice", data := .fields #[vl, vu, vs] } }
  refine tail_any (ops := [.ref a, .ref s4.heap.objs.size]) ht.isList.typeIs (PySem.slot_list_getitem.lookup) ?_ (by with_unfolding_all rfl)
  refine wpAny_getItem_list_slice ht.isList (Heap.IsSliceOf.new _ vl vu vs) pl pu ps (by decide) ?_ (by rw [List.size_toArray]; omega)
  rw [PySem.W.krv_pick]
  exact ⟨.ref _, _, I5.laid (t' := s4.toks) (o := .lst xs.reverse) (fun b ob q => Heap.get?_push_of_some _ q) (Nat.le_refl _) ⟨by rw [List.length_reverse]; exact hz, _, 0, r.reverse, Heap.get?_push_size _ rfl⟩, rfl, q _ (I5.hok.fresh (Nat.le_refl _))⟩
/-- o.f within a comprehension -/
theorem pe_fldK {X : Cx} {e : Expr} {f : Str} {pos : Pos} {ta : TE} (K : PySem.W.Frag) (he : PE X e ta) (hb : attributeBase e f X.env (eval e X.env) = eval e X.env) (hK : X.K = K := by rfl) : PE X (.Attribute e f pos) (tFld K ta f) := by
  subst hK
  exact pe_fld he hb
end Ow

namespace Ow
open PySem PySem.Spec PyProof.Rows L2 Hb
/-- {k: v}, k a tuple of ints and texts -/
def tDisp1 (tk tv : TE) : TE := fun σ H Q => ∀ p, H p = none → tk σ (upd H p (.dT [])) fun x H1 => tv σ H1 fun y H2 => H2 p = some (.dT []) ∧ ∃ (k : List Key) (b : Addr), x = .ref b ∧ H2 b = some (.tup (k.map kV)) ∧ Q (.ref p) (upd H2 p (.dT [(k, y)]))
theorem pe_disp1T {X : Cx} {k v : Expr} {tk tv : TE} {pos : Pos} (hu : X.A.units + 1 < cLine) (hk : PE X k tk) (hv : PE X v tv) : PE X (.Dict [some k] [v] pos) (tDisp1 tk tv) := by
  refine ⟨fun pins s σ H Q I q => ?_⟩
  have hn := I.hok.fresh (Nat.le_refl s.heap.objs.size)
  have I1 := I.laid (a := s.heap.objs.size) (o := .dT []) (h' := s.heap.push { cls := .type "dict", data := .dict #[] }) (t' := s.toks) (fun _ _ q => Heap.get?_push_of_some _ q) (Nat.le_refl _) (dt_empty s.heap I.big)
  have pr := pairTrees_length [some k] [v] X.env pos rfl rfl
  rw [arm_eval_Dict, zip_pairTrees [some k] [v] X.env pos rfl rfl, dictDisplay_pairs _ (fun z => by rw [z] at pr; cases pr) (by rw [pr]; exact (by decide : (1 : Nat) < 17))]
  refine wpAny_bind (wpAny_standAt (wpAny_bind (wpAny_subDictH (knd := tupleKind (mixKind X.prog X.w)) (Q := fun d s' => wpAny (model X.prog X.w) X.A (pure (Value.ref d)) (EP X pins σ Q) X.xe s') (show X.A.units < cLine by omega) (by rw [pr]; exact (by decide : (1 : Nat) ≤ 15)) ?_)))
  refine thn ((pps_cons hk hv pps_nil).run pins _ σ _ (fun ps H2 => match ps with | [(x, y)] => H2 s.heap.objs.size = some (.dT []) ∧ ∃ (k : List Key) (b : Addr), x = .ref b ∧ H2 b = some (.tup (k.map kV)) ∧ Q (.ref s.heap.objs.size) (upd H2 s.heap.objs.size (.dT [(k, y)])) | _ => False) I1 (q _ hn)) fun ws s2 ⟨ps, H2, I2, rel, q1⟩ => ?_
  match ps, q1 with
  | [(x, y)], q1 => ?_
  obtain ⟨e, kk, b, ex, eb, q2⟩ := q1
  subst ex
  cases rel with
  | @cons _ bb _ _ h t =>
    obtain ⟨b1, b2⟩ := bb
    cases t
    obtain ⟨r1, r2⟩ := h
    cases (show b1 = Value.ref b from r1)
    obtain ⟨z, hd, xs, rel, dd⟩ := dt_of I2.hok e
    cases rel
    refine ⟨[(kk, b, b2)], ⟨rfl, rfl, key_of I2.hok eb, trivial⟩, dd, fun h' tk' dd' hs => wpAny_pure ⟨.ref s.heap.objs.size, _, ?_, rfl, q2⟩⟩
    obtain ⟨qo, es, ep, hq, h2, h3, h4, _, h5⟩ := dd'
    refine d_write I2 (by rw [e]; exact True.intro) hs ⟨qo, hq⟩ ⟨by show 1 ≤ sizeLine; decide, hd, [(kk, b, b2)], .cons ⟨rfl, ?_, r2⟩ .nil, qo, es, ep, hq, h2, h3, h4, h5⟩
    rw [upd_ne (ne_of eb e (fun z => nomatch z))]
    exact eb
end Ow

/-! enumerate of a tuple -/
namespace En
open PySem PySem.Spec PyProof.Rows L2
set_option maxHeartbeats 1000000 in
theorem new_one {v : Value} {it : Obj} {Z : Heap → Prop} (B : Begins v it Z) : Meets (Builtin.«enumerate.__new__» ⟨[.type "enumerate", v], []⟩) (fun _ R z => Z z.heap ∧
    R (.ok (.ret (.ref (z.heap.push it).objs.size))) { z with heap := (z.heap.push it).push { cls := .type "enumerate", data := .fields #[.none, .bool false, .ref z.heap.objs.size, rawInt 0, .none, .none] } }) :=
  .of_wp fun prog w A R z hz => by
    obtain ⟨hp, gs, dr, nt, oss⟩ := z
    obtain ⟨hZ, hR⟩ := hz
    have isub := sub_enumerate
    have begun : ∀ {A' : Around} {E : Value → Shared → Prop} {Q : Value → Shared → Prop}, Q (.ref hp.objs.size) ⟨hp.push it, gs, dr, nt, oss⟩ → wpAny (model prog w) A' (pyIter v) Q E ⟨hp, gs, dr, nt, oss⟩ :=
      fun qq => B.iter prog w _ _ ⟨hp, gs, dr, nt, oss⟩ _ hZ qq
    wp_walk using begun
    refine wpAny_stack_any fun _ => wpAny_pure ?_
    split
    · rename_i cl _ _ _ _ _
      cases (cl == Value.type "enumerate") <;> (wp_walk using begun; exact ⟨_, rfl, hR⟩)
    · wp_walk using begun
      exact ⟨_, rfl, hR⟩
section
variable {prog : Program} {w : World} {A : Around} {E : Value → Shared → Prop} {s : Shared}
theorem call_one {v : Value} {it : Obj} {Z : Heap → Prop} {Q : Value → Shared → Prop} (B : Begins v it Z) (hZ : Z s.heap)
    (fin : ∀ h', IsEnum h' (s.heap.objs.size + 1) s.heap.objs.size 0 .none → h'.get? s.heap.objs.size = some it → (∀ b o, s.heap.get? b = some o → h'.get? b = some o) → Q (.ref (s.heap.objs.size + 1)) { s with heap := h' }) :
    wpAny (model prog w) A (call (.type "enumerate") [v]) Q E s := by
  refine callType_new F.called_enumerate (by decide) (F.typeCall_enumerate_1 v) (F.newCall_enumerate_1 v) (fun self => F.args_object_init_2 self v) F.entry_enumerate_new (new_one B) ⟨hZ, ?_⟩
  have size1 : (s.heap.push it).objs.size = s.heap.objs.size + 1 := Heap.size_push ..
  show _ ∧ _
  rw [size1]
  have at1 : IsEnum ((s.heap.push it).push { cls := .type "enumerate", data := .fields #[.none, .bool false, .ref s.heap.objs.size, rawInt 0, .none, .none] }) (s.heap.objs.size + 1) s.heap.objs.size 0 .none := by
    have z := Heap.get?_push_size (s.heap.push it) (o := { cls := .type "enumerate", data := .fields #[.none, .bool false, .ref s.heap.objs.size, rawInt 0, .none, .none] }) rfl
    rw [size1] at z
    exact z
  exact ⟨⟨_, at1, rfl⟩, fin _ at1 (Heap.get?_push_of_some _ (Heap.get?_push_size _ B.free)) fun b o y => Heap.get?_push_of_some _ (Heap.get?_push_of_some _ y)⟩
end
def IteT (K : PySem.W.Frag) (a : Addr) : It where
  go i H := ∃ (xs : List V) (x : V), SqT K H a xs ∧ xs[i]? = some x
  yld i H v H' := ∃ T x, v = .ref T ∧ H T = none ∧ H' = upd H T (.tup [.int (i : Nat), x]) ∧ ∀ xs, SqT K H a xs → xs[i]? = some x
  stop i H := ∃ xs : List V, SqT K H a xs ∧ xs.length ≤ i
theorem tup_ne {h : Heap} {a it : Addr} {k : Nat} {items : Array Value} (h1 : h.IsTuple a items) (h2 : h.IsTupleIter it a k) : a ≠ it := by
  intro e
  obtain ⟨o, ho, hc, _⟩ := h1
  obtain ⟨o2, ho2, hc2, _⟩ := h2
  rw [← e, ho] at ho2
  cases ho2
  exact absurd (Value.type.inj (hc.symm.trans hc2)) (by decide)
theorem turn_enumT {P : Program} {w : World} {K : PySem.W.Frag} {elts : List Expr} {kk : Nat} {tpos : Pos} (a e it : Addr) :
    Turn P w K (.Tuple elts kk tpos) (IteT K a) [e, it] e (fun i h => (∃ old, IsEnum h e it ((i : Nat) : Int) old) ∧ h.IsTupleIter it a i ∧ e ≠ it) where
  mem := by simp
  obj i h st b hb := by
    obtain ⟨⟨old, hen⟩, ⟨o, ho, _, hd⟩, _⟩ := st
    rcases (show b = e ∨ b = it by simpa using hb) with z | z
    · exact ⟨_, by rw [z]; exact hen, fun v q => by cases (show Data.fields _ = Data.cell v from q)⟩
    · exact ⟨o, by rw [z]; exact ho, fun v q => by rw [hd] at q; cases q⟩
  keep i h h' st k := by
    obtain ⟨⟨old, hen⟩, hti, ne⟩ := st
    exact ⟨⟨old, k e (by simp) _ hen⟩, hti.at fun o q => k it (by simp) o q, ne⟩
  item := by
    intro X hP hw hK hc i pins s σ H E I hf st hg
    subst hP hw hK
    obtain ⟨⟨old, hen⟩, hti, ne⟩ := st
    obtain ⟨xs, x, hq, hx⟩ := hg
    obtain ⟨its, rel, pt, _⟩ := I.tuple hq
    obtain ⟨u, hu, ru⟩ := rel.get hx
    have lt1 : e < s.heap.objs.size := Heap.lt_size hen
    have lt2 : it < s.heap.objs.size := by obtain ⟨_, y, _⟩ := hti; exact Heap.lt_size y
    have ane := tup_ne pt hti
    have elt : ∀ b ∈ [e, it], b < s.heap.objs.size := fun b hb => by
      rcases (show b = e ∨ b = it by simpa using hb) with z | z <;> rw [z] <;> assumption
    have ena : e ≠ a := fun z => by
      obtain ⟨o, ho, hcl, _⟩ := pt
      have q : s.heap.get? e = _ := hen
      rw [z, ho] at q
      cases q
      exact absurd (Value.type.inj hcl) (by decide)
    have hh : X.A.in1.handled = none := I.ok.hd hc
    refine wpAny_pyNext_enum_itemD (Draws.tuple hh it a ane its.toArray) hen ⟨hti, pt⟩ (show i < its.toArray.size by rw [List.size_toArray]; exact (List.getElem?_eq_some_iff.mp hu).1) ne (by simp [ne, ena]) fun y h' tk hy out st' hT hsz hk => ?_
    have hyu : y = u := by
      have : its[i]? = some y := by simpa using hy
      rw [hu] at this
      exact (Option.some.inj this).symm
    subst hyu
    refine ⟨_, rfl, wpAny_letOwnedTupleGo_enum (s := { s with heap := h', toks := tk + 1 }) out fun h2 hen2 sb => ?_⟩
    have t2 : h2.get? s.heap.objs.size = some { cls := .type "tuple", data := .seq #[.int i tk, y] } := (sb.2 _ (Nat.ne_of_gt lt1)).trans hT
    have newT : ObjOk X.prog X.w (upd H s.heap.objs.size (.tup [.int (i : Nat), x])) h2 s.heap.objs.size (.tup [.int (i : Nat), x]) :=
      ⟨by show 2 ≤ sizeLine; decide, [.int i tk, y], .cons ⟨_, rfl⟩ (.cons ru .nil), ⟨_, t2, rfl, _, rfl⟩⟩
    have J : Inv X pins σ (upd H s.heap.objs.size (.tup [.int (i : Nat), x])) { s with heap := h2, toks := tk + 1 } :=
      I.turnedNew (t' := tk + 1) (ch := [e, it]) (fun b ob hb q => (sb.2 b (fun z => hb (by simp [z]))).trans (hk b ob (fun z => hb (by simp [z])) (fun z => hb (by simp [z])) q)) hf (Nat.le_refl _) newT
    refine ⟨.ref s.heap.objs.size, _, J, rfl, ⟨_, x, rfl, I.hok.fresh (Nat.le_refl _), rfl, fun ys hys => by rw [I.tuple_inj hys hq]; exact hx⟩, ⟨⟨y, ?_⟩, st'.1.at fun o q => (sb.2 it (Ne.symm ne)).trans q, ne⟩, fun b hb => ?_⟩
    · rw [show ((i + 1 : Nat) : Int) = (i : Int) + 1 by omega]
      exact hen2
    · rw [upd_ne (Nat.ne_of_lt (elt b hb))]
      exact (hf b hb).1
  done := by
    intro X hP hw hK hc i pins s σ H E I hf st hg
    subst hP hw hK
    obtain ⟨⟨old, hen⟩, hti, ne⟩ := st
    obtain ⟨xs, hq, hx⟩ := hg
    obtain ⟨its, rel, pt, _⟩ := I.tuple hq
    obtain ⟨g0, g1, g2, g3, g4, g5⟩ := hf it (by simp)
    have hl := rel.length
    have hh : X.A.in1.handled = none := I.ok.hd hc
    have T : Draws X.prog X.w X.A.in1 it [it, a] i (fun i v => its.toArray[i]? = some v) (fun k h => k = i ∧ h.IsTupleIter it a i ∧ h.IsTuple a its.toArray) := {
      live := fun _ _ sj => let ⟨o, ho, _⟩ := sj.2.1; ⟨o, ho⟩
      frame := fun _ _ _ sj k => ⟨sj.1, sj.2.1.at fun o q => k it (by simp) o q, sj.2.2.at fun o q => k a (by simp) o q⟩
      item := fun j z Q' E' hj sj hQ => absurd sj.1 (Nat.ne_of_lt hj)
      done := fun z Q' E' sj hE => wpAny_nextOf_tuple_end hh sj.2.1 sj.2.2 (by simp; omega) hE }
    exact wpAny_pyNext_enum_endD T hen ⟨rfl, hti, pt⟩ fun h' eb => ⟨rfl, I.turned (t' := s.toks) (fun b o hb q => eb b o hb q) g0 g1 g3 g4 g5⟩
  self A i s Q E st h := by
    obtain ⟨⟨_, hen⟩, _⟩ := st
    exact wpAny_pyIter_enum hen h
def iEnumT (K : PySem.W.Frag) (ta : TA) : TI := fun σ H R => ta σ H fun vs H1 => ∃ a, vs = [.ref a] ∧ (∃ xs, SqT K H1 a xs) ∧ R (IteT K a) H1
theorem pi_enumT {X : Cx} {e : Expr} {ta : TA} {p pos tpos : Pos} {elts : List Expr} {kk : Nat} (hg : Gl X "enumerate") (hm : X.mg "enumerate" = none) (ha : PA X [e] ta) (hs : starEach [e] X.env = [(false, eval e X.env)] := by rfl) :
    PI X (.Tuple elts kk tpos) (.Call (.Name "enumerate" p) [e] [] pos) (iEnumT X.K ta) := by
  refine ⟨fun pins s σ H R I h => Call_ (ld_blt I hg hm boot_enumerate (PyProof.Rows.callWith_type1 (thn (ha.run pos pins s σ H _ I h) fun us s1 gone => ?_) hs rfl))⟩
  obtain ⟨vs, H1, I1, rel, a, rfl, ⟨xs, hq⟩, qq⟩ := gone
  match us, rel with
  | [_], .cons r .nil =>
    cases r
    obtain ⟨its, _, pt, _⟩ := I1.tuple hq
    refine call_one (begins_tuple a its.toArray) pt fun h' hen hit hk => wpAny_pyIter_enum hen ?_
    have J : Inv X pins σ H1 { s1 with heap := h' } := I1.kept (t' := s1.toks) hk
    refine ⟨s1.heap.objs.size + 1, [s1.heap.objs.size + 1, s1.heap.objs.size], _, _, H1, rfl, J, turn_enumT a (s1.heap.objs.size + 1) s1.heap.objs.size, ⟨⟨.none, hen⟩, ⟨_, hit, rfl, rfl⟩, Nat.succ_ne_self _⟩, fun b hb => ?_, qq⟩
    have le : s1.heap.objs.size ≤ b := by
      rcases (show b = s1.heap.objs.size + 1 ∨ b = s1.heap.objs.size by simpa using hb) with z | z
      · rw [z]; exact Nat.le_succ _
      · rw [z]; exact Nat.le_refl _
    exact I1.fpOk le (I1.hok.fresh le)
/-- for i, x in enumerate(t) -/
theorem for_enumT {K : PySem.W.Frag} {a : Addr} {xs : List V} {g : TG} {tb : TS} {D : Ends} {σ : L2.St} {H : Hp} (Pv : Nat → L2.St → Hp → Prop) (h0 : Pv 0 σ H) (hl : ∀ i σ H, Pv i σ H → SqT K H a xs)
    (hs : ∀ (i : Nat) (x : V) (T : Addr) (σ : L2.St) (H : Hp), xs[i]? = some x → Pv i σ H → H T = none → g (.ref T) σ (upd H T (.tup [.int (i : Nat), x])) fun σ2 H2 => tb { D with nx := Pv (i + 1), ct := Pv (i + 1), bk := D.nx } σ2 H2)
    (hd : ∀ σ H, Pv xs.length σ H → D.nx σ H) :
    ∃ W : Nat → Nat → L2.St → Hp → Prop, (∃ m, W 0 m σ H) ∧ ∀ i m σ H, W i m σ H →
      ((IteT K a).stop i H ∧ D.nx σ H) ∨ ((IteT K a).go i H ∧ ∃ N : L2.St → Hp → Prop, (∀ σ' H', N σ' H' → ∃ m', m' < m ∧ W (i + 1) m' σ' H') ∧ ∀ v H', (IteT K a).yld i H v H' → g v σ H' fun σ2 H2 => tb { D with nx := N, ct := N, bk := D.nx } σ2 H2) := by
  refine ⟨fun i m σ H => m + i = xs.length ∧ Pv i σ H, ⟨xs.length, rfl, h0⟩, fun i m σ H ⟨e, p⟩ => ?_⟩
  have q := hl i σ H p
  cases m with
  | zero => exact .inl ⟨⟨xs, q, by omega⟩, hd σ H (by rw [show xs.length = i by omega]; exact p)⟩
  | succ m =>
    have hlt : i < xs.length := by omega
    refine .inr ⟨⟨xs, xs[i], q, List.getElem?_eq_getElem hlt⟩, Pv (i + 1), fun σ' H' p' => ⟨m, Nat.lt_succ_self m, by omega, p'⟩, fun v H' y => ?_⟩
    obtain ⟨T, x, rfl, hT, rfl, hx⟩ := y
    exact hs i x T σ H (hx xs q) p hT
end En

/-! walks over a list or a tuple alike; comprehensions that keep some items and turn them -/
namespace Sq
open PySem PySem.Spec PyProof.Rows L2 Hb St
/-- what a program changes in place -/
def Mut (o : HO) : Prop := (∃ ys, o = .lst ys) ∨ ∃ k, o = .dT k
/-- all but the lists and dicts is as it was -/
def Fix (H H' : Hp) : Prop := ∀ b o, H b = some o → ¬ Mut o → H' b = some o
theorem Fix.of {H H' : Hp} (s : Same H H') : Fix H H' := fun b o e _ => s b o e
theorem Fix.refl (H : Hp) : Fix H H := fun _ _ e _ => e
theorem Fix.trans {H H1 H2 : Hp} (a : Fix H H1) (b : Fix H1 H2) : Fix H H2 := fun c o e n => b c o (a c o e n) n
theorem Fix.lst {H : Hp} {p : Addr} {xs : List V} {o : HO} (e : H p = some (.lst xs)) : Fix H (upd H p o) := fun b u eb n => by
  rw [upd_ne fun z => n (.inl ⟨xs, by rw [z, e] at eb; exact (Option.some.inj eb).symm⟩)]; exact eb
theorem Fix.dT {H : Hp} {p : Addr} {k : List (List Key × V)} {o : HO} (e : H p = some (.dT k)) : Fix H (upd H p o) := fun b u eb n => by
  rw [upd_ne fun z => n (.inr ⟨k, by rw [z, e] at eb; exact (Option.some.inj eb).symm⟩)]; exact eb
theorem Fix.new {H : Hp} {p : Addr} {o : HO} (e : H p = none) : Fix H (upd H p o) := Fix.of (same_new e o)
theorem Fix.kept {H H' : Hp} {p : Addr} {xs : List V} (e : H p = some (.lst xs)) (k : Kept p H H') : Fix H H' := fun b o eb n => k b o eb fun z => n (.inl ⟨xs, by rw [z, e] at eb; exact (Option.some.inj eb).symm⟩)
theorem tupFix {K : PySem.W.Frag} {H H' : Hp} {a : Addr} {xs : List V} (f : Fix H H') (h : SqT K H a xs) : SqT K H' a xs := by
  rcases h with (e | ⟨o, e⟩) | r
  · exact .inl (.inl (f _ _ e (by rintro (⟨_, z⟩ | ⟨_, z⟩) <;> cases z)))
  · exact .inl (.inr ⟨o, f _ _ e (by rintro (⟨_, z⟩ | ⟨_, z⟩) <;> cases z)⟩)
  · exact .inr r
theorem lstSame {K : PySem.W.Frag} {H H' : Hp} {a : Addr} {xs : List V} (f : Same H H') (h : SqL K H a xs) : SqL K H' a xs := by
  rcases h with (e | ⟨o, e⟩) | r
  · exact .inl (.inl (f _ _ e))
  · exact .inl (.inr ⟨o, f _ _ e⟩)
  · exact .inr r
theorem sqxSame {K : PySem.W.Frag} {H H' : Hp} {a : Addr} {xs : List V} (s : Same H H') (h : SqX K H a xs) : SqX K H' a xs := h.imp (lstSame s) (tupFix (Fix.of s))
theorem SqX.lst {K : PySem.W.Frag} {H : Hp} {a : Addr} {xs : List V} (e : H a = some (.lst xs)) : SqX K H a xs := .inl (SqL.of e)
theorem SqX.tup {K : PySem.W.Frag} {H : Hp} {a : Addr} {xs : List V} (e : H a = some (.tup xs)) : SqX K H a xs := .inr (SqT.of e)
/-- item by item -/
inductive All2 {α β : Type} (R : α → β → Prop) : List α → List β → Prop where
  | nil : All2 R [] []
  | cons {a b as bs} : R a b → All2 R as bs → All2 R (a :: as) (b :: bs)
namespace All2
variable {α β : Type} {R S : α → β → Prop}
theorem len : ∀ {as : List α} {bs : List β}, All2 R as bs → as.length = bs.length
  | _, _, .nil => rfl
  | _, _, .cons _ t => congrArg (· + 1) t.len
theorem imp (f : ∀ a b, R a b → S a b) : ∀ {as : List α} {bs : List β}, All2 R as bs → All2 S as bs
  | _, _, .nil => .nil
  | _, _, .cons h t => .cons (f _ _ h) (imp f t)
theorem app : ∀ {as as' : List α} {bs bs' : List β}, All2 R as bs → All2 R as' bs' → All2 R (as ++ as') (bs ++ bs')
  | _, _, _, _, .nil, h => h
  | _, _, _, _, .cons h t, k => .cons h (app t k)
theorem get : ∀ {as : List α} {bs : List β}, All2 R as bs → ∀ {i : Nat} {a : α}, as[i]? = some a → ∃ b, bs[i]? = some b ∧ R a b
  | _, _, .cons h t, 0, a, e => ⟨_, rfl, by cases e; exact h⟩
  | _, _, .cons h t, i + 1, a, e => t.get (i := i) e
theorem getR : ∀ {as : List α} {bs : List β}, All2 R as bs → ∀ {i : Nat} {b : β}, bs[i]? = some b → ∃ a, as[i]? = some a ∧ R a b
  | _, _, .cons h t, 0, a, e => ⟨_, rfl, by cases e; exact h⟩
  | _, _, .cons h t, i + 1, a, e => t.getR (i := i) e
theorem map_eq {f : β → α} (h : ∀ a b, R a b → a = f b) : ∀ {as : List α} {bs : List β}, All2 R as bs → as = bs.map f
  | _, _, .nil => rfl
  | _, _, .cons r t => by rw [List.map_cons, h _ _ r, map_eq h t]
theorem of_map {f : β → α} (h : ∀ b, R (f b) b) : ∀ bs : List β, All2 R (bs.map f) bs
  | [] => .nil
  | b :: bs => .cons (h b) (of_map h bs)
theorem drop : ∀ {as : List α} {bs : List β} (n : Nat), All2 R as bs → All2 R (as.drop n) (bs.drop n)
  | _, _, 0, h => h
  | _, _, n + 1, .nil => .nil
  | _, _, n + 1, .cons _ t => drop n t
theorem take : ∀ {as : List α} {bs : List β} (n : Nat), All2 R as bs → All2 R (as.take n) (bs.take n)
  | _, _, 0, h => .nil
  | _, _, n + 1, .nil => .nil
  | _, _, n + 1, .cons h t => .cons h (take n t)
end All2
/-- a walk J over the items xs of the object at a; S: it stands -/
structure Wk (J : It) (a : Addr) (S : Hp → Prop) (xs : List V) : Prop where
  go : ∀ i H, i < xs.length → S H → J.go i H
  stop : ∀ H, S H → J.stop xs.length H
  yld : ∀ i H v H', i < xs.length → S H → J.yld i H v H' → H' = H ∧ xs[i]? = some v
  keep : ∀ {H H' : Hp}, (∀ o, H a = some o → H' a = some o) → S H → S H'
theorem wk_list {K : PySem.W.Frag} {a : Addr} {xs : List V} : Wk (Itl K a) a (fun H => SqL K H a xs) xs where
  go := fun i H hi s => ⟨xs, xs[i], s, List.getElem?_eq_getElem hi⟩
  stop := fun H s => ⟨xs, s, Nat.le_refl _⟩
  yld := fun i H v H' _ s y => ⟨y.1, y.2 xs s⟩
  keep := fun k s => by
    rcases s with (e | ⟨o, e⟩) | r
    · exact .inl (.inl (k _ e))
    · exact .inl (.inr ⟨o, k _ e⟩)
    · exact .inr r
theorem wk_tup {K : PySem.W.Frag} {a : Addr} {xs : List V} : Wk (Itt K a) a (fun H => SqT K H a xs) xs where
  go := fun i H hi s => ⟨xs, xs[i], s, List.getElem?_eq_getElem hi⟩
  stop := fun H s => ⟨xs, s, Nat.le_refl _⟩
  yld := fun i H v H' _ s y => ⟨y.1, y.2 xs s⟩
  keep := fun k s => by
    rcases s with (e | ⟨o, e⟩) | r
    · exact .inl (.inl (k _ e))
    · exact .inl (.inr ⟨o, k _ e⟩)
    · exact .inr r
def iSeq (K : PySem.W.Frag) (tl : TE) : TI := fun σ H R => tl σ H fun x H1 => ∃ a xs, x = .ref a ∧ SqX K H1 a xs ∧ ∀ (J : It) (S : Hp → Prop), Wk J a S xs → S H1 → R J H1
theorem pi_seq {X : Cx} {tg l : Expr} {tl : TE} (hl : PE X l tl) : PI X tg l (iSeq X.K tl) := by
  refine ⟨fun pins s σ H R I h => ?_⟩
  have both : PI X tg l (fun σ H R => iList X.K tl σ H R ∨ iTup X.K tl σ H R) := ⟨fun pins s σ H R I h => h.elim ((pi_list hl).run pins s σ H R I) ((pi_tup hl).run pins s σ H R I)⟩
  refine thn (hl.run pins s σ H _ I h) fun v s1 ⟨x, H1, I1, r1, a, xs, ex, hx, q⟩ => ?_
  subst ex; cases r1
  rcases hx with hx | hx
  · obtain ⟨its, rv, p, hz⟩ := I1.list hx
    refine wpAny_pyIter_list p.isList ⟨s1.heap.objs.size, [s1.heap.objs.size], _, _, H1, rfl, I1.kept (t' := s1.toks) fun b o e => Heap.get?_push_of_some _ e, turn_list a _, ⟨_, Heap.get?_push_size _ rfl, rfl, rfl⟩, fun b hb => ?_, q _ _ wk_list hx⟩
    obtain rfl : b = s1.heap.objs.size := by simpa using hb
    exact I1.fpOk (Nat.le_refl _) (I1.hok.fresh (Nat.le_refl _))
  · obtain ⟨its, rv, p, hz⟩ := I1.tuple hx
    refine wpAny_pyIter_tuple (show s1.heap.IsTuple a its.toArray from p) ⟨s1.heap.objs.size, [s1.heap.objs.size], _, _, H1, rfl, I1.kept (t' := s1.toks) fun b o e => Heap.get?_push_of_some _ e, turn_tuple a _, ⟨_, Heap.get?_push_size _ rfl, rfl, rfl⟩, fun b hb => ?_, q _ _ wk_tup hx⟩
    obtain rfl : b = s1.heap.objs.size := by simpa using hb
    exact I1.fpOk (Nat.le_refl _) (I1.hok.fresh (Nat.le_refl _))
/-! ### comprehensions -/
section
variable {α : Type}
/-- where a comprehension stands: H1 as it began, D its list, ds its items' data -/
structure MF (H1 : Hp) (D : Addr) (ds : List α) (keep : α → Bool) (Rel : Hp → V → α → Prop) (i : Nat) (H : Hp) : Prop where
  same : Same H1 H
  acc : ∃ ys, H D = some (.lst ys) ∧ All2 (Rel H) ys ((ds.take i).filter keep)
variable {H1 : Hp} {D : Addr} {ds : List α} {keep : α → Bool} {Rel : Hp → V → α → Prop} {i : Nat} {H : Hp}
theorem mf_yes (m : MF H1 D ds keep Rel i H) {H' : Hp} {d : α} {y : V} (hd : H1 D = none) (mono : ∀ H H' y d, Fix H H' → Rel H y d → Rel H' y d) (hi : ds[i]? = some d) (hl : ds.length ≤ 100000) (s : Same H H') (k : keep d = true) (r : Rel H' y d) :
    ∃ acc, H' D = some (.lst acc) ∧ acc.length < sizeLine ∧ MF H1 D ds keep Rel (i + 1) (upd H' D (.lst (acc ++ [y]))) := by
  obtain ⟨s1, ys, e, a⟩ := m
  have e' := s _ _ e
  have fx : Fix H' (upd H' D (.lst (ys ++ [y]))) := Fix.lst e'
  refine ⟨ys, e', ?_, fun b o eb => ?_, ys ++ [y], upd_same, ?_⟩
  · have := a.len
    have h2 := List.length_filter_le keep (ds.take i)
    have h3 : (ds.take i).length ≤ ds.length := by rw [List.length_take]; exact Nat.min_le_right _ _
    rw [sizeLine_eq]; omega
  · rw [upd_ne (ne_of_none eb hd)]; exact s b o (s1 b o eb)
  · rw [List.take_add_one, hi, List.filter_append]
    show All2 _ _ (_ ++ [d].filter keep)
    rw [List.filter_cons_of_pos k]
    exact (a.imp fun _ _ q => mono _ _ _ _ ((Fix.of s).trans fx) q).app (.cons (mono _ _ _ _ fx r) .nil)
theorem mf_no (m : MF H1 D ds keep Rel i H) {H' : Hp} {d : α} (mono : ∀ H H' y d, Fix H H' → Rel H y d → Rel H' y d) (hi : ds[i]? = some d) (s : Same H H') (k : keep d = false) : MF H1 D ds keep Rel (i + 1) H' := by
  obtain ⟨s1, ys, e, a⟩ := m
  refine ⟨s1.trans s, ys, s _ _ e, ?_⟩
  rw [List.take_add_one, hi, List.filter_append]
  show All2 _ _ (_ ++ [d].filter keep)
  rw [List.filter_cons_of_neg (by rw [k]; exact Bool.false_ne_true), List.filter_nil, List.append_nil]
  exact a.imp fun _ _ q => mono _ _ _ _ (Fix.of s) q
/-- a comprehension over the walk J -/
theorem lc_mf {J : It} {a : Addr} {S : Hp → Prop} {xs : List V} {ds : List α} (W : Wk J a S xs) (keep : α → Bool) (Rel : Hp → V → α → Prop) {g : TG} {tt : TT} {te : TE} {vs : List Nat} {σ : L2.St} {H1 : Hp} {D : Addr} {Qd : Hp → Prop} (hS : S H1) (hD : H1 D = none)
    (hlen : xs.length = ds.length)
    (hs : ∀ i x d H, xs[i]? = some x → ds[i]? = some d → Same H1 H → MF H1 D ds keep Rel i H → g x (wipe σ vs) H fun σ2 H2 => wipe σ2 vs = wipe σ vs ∧ tt σ2 H2 fun b H3 =>
      if b = true then te σ2 H3 fun y H4 => ∃ acc, H4 D = some (.lst acc) ∧ acc.length < sizeLine ∧ MF H1 D ds keep Rel (i + 1) (upd H4 D (.lst (acc ++ [y]))) else MF H1 D ds keep Rel (i + 1) H3)
    (hd : ∀ H ys, Same H1 H → H D = some (.lst ys) → All2 (Rel H) ys (ds.filter keep) → Qd H) :
    ∃ W : Nat → Nat → Hp → Prop, (∃ m, W 0 m (upd H1 D (.lst []))) ∧ ∀ i m H, W i m H →
      (J.stop i H ∧ Qd H) ∨ (J.go i H ∧ ∃ Nx : Hp → Prop, (∀ H', Nx H' → ∃ m', m' < m ∧ W (i + 1) m' H') ∧ ∀ v H', J.yld i H v H' → g v (wipe σ vs) H' fun σ2 H2 => wipe σ2 vs = wipe σ vs ∧ tt σ2 H2 fun b H3 =>
        if b = true then te σ2 H3 fun y H4 => ∃ acc, H4 D = some (.lst acc) ∧ acc.length < sizeLine ∧ Nx (upd H4 D (.lst (acc ++ [y]))) else Nx H3) := by
  have stand : ∀ {H}, Same H1 H → S H := fun {H} s => W.keep (fun o e => s _ _ e) hS
  refine ⟨fun i m H => m + i = xs.length ∧ MF H1 D ds keep Rel i H, ⟨xs.length, rfl, fun b o e => by rw [upd_ne (ne_of_none e hD)]; exact e, [], upd_same, .nil⟩, fun i m H ⟨e, p⟩ => ?_⟩
  cases m with
  | zero =>
    obtain rfl : i = xs.length := by omega
    obtain ⟨ys, ey, al⟩ := p.acc
    refine .inl ⟨W.stop H (stand p.same), hd H ys p.same ey ?_⟩
    rw [List.take_of_length_le (by omega)] at al
    exact al
  | succ m =>
    have hi : i < xs.length := by omega
    refine .inr ⟨W.go i H hi (stand p.same), MF H1 D ds keep Rel (i + 1), fun H' p' => ⟨m, Nat.lt_succ_self m, by omega, p'⟩, fun v H' y => ?_⟩
    obtain ⟨rfl, ev⟩ := W.yld i H v H' hi (stand p.same) y
    exact hs i v ds[i] H' ev (List.getElem?_eq_getElem (by omega)) p.same p
end
end Sq
namespace Sq
open PySem PySem.Spec PyProof.Rows L2 Hb St
theorem wk_range {lo : Int} {n : Nat} {a : Addr} : Wk (Itr lo n) a (fun _ => True) ((List.range n).map fun k => V.int (lo + (k : Nat))) where
  go := fun i H hi _ => by
    show i < n
    simpa using hi
  stop := fun H _ => by show n ≤ _; simp
  yld := fun i H v H' hi _ y => by
    obtain ⟨e, ev⟩ := (show H' = H ∧ v = .int (lo + (i : Nat)) from y)
    have hn : i < n := by simpa using hi
    exact ⟨e, by rw [ev, List.getElem?_map, List.getElem?_range hn] <;> rfl⟩
  keep := fun _ _ => trivial
/-- a for over the walk J -/
theorem for_sq {J : It} {a : Addr} {S : Hp → Prop} {xs : List V} (W : Wk J a S xs) {g : TG} {tb : TS} {D : Ends} {σ : L2.St} {H : Hp} (Pv : Nat → L2.St → Hp → Prop) (h0 : Pv 0 σ H) (hk : ∀ i σ H, Pv i σ H → S H)
    (hs : ∀ i σ H x, xs[i]? = some x → Pv i σ H → g x σ H fun σ2 H2 => tb { D with nx := Pv (i + 1), ct := Pv (i + 1), bk := D.nx } σ2 H2) (hd : ∀ σ H, Pv xs.length σ H → D.nx σ H) :
    ∃ W : Nat → Nat → L2.St → Hp → Prop, (∃ m, W 0 m σ H) ∧ ∀ i m σ H, W i m σ H →
      (J.stop i H ∧ D.nx σ H) ∨ (J.go i H ∧ ∃ N : L2.St → Hp → Prop, (∀ σ' H', N σ' H' → ∃ m', m' < m ∧ W (i + 1) m' σ' H') ∧ ∀ v H', J.yld i H v H' → g v σ H' fun σ2 H2 => tb { D with nx := N, ct := N, bk := D.nx } σ2 H2) := by
  refine ⟨fun i m σ H => m + i = xs.length ∧ Pv i σ H, ⟨xs.length, rfl, h0⟩, fun i m σ H ⟨e, p⟩ => ?_⟩
  cases m with
  | zero =>
    obtain rfl : i = xs.length := by omega
    exact .inl ⟨W.stop H (hk _ _ _ p), hd σ H p⟩
  | succ m =>
    refine .inr ⟨W.go i H (by omega) (hk _ _ _ p), Pv (i + 1), fun σ' H' p' => ⟨m, Nat.lt_succ_self m, by omega, p'⟩, fun v H' y => ?_⟩
    obtain ⟨rfl, ev⟩ := W.yld i H v H' (by omega) (hk _ _ _ p) y
    exact hs i σ H' v ev p
/-- a walk of enumerate -/
structure En (J : It) (a : Addr) (S : Hp → Prop) (xs : List V) : Prop where
  go : ∀ i H, i < xs.length → S H → J.go i H
  stop : ∀ H, S H → J.stop xs.length H
  yld : ∀ i H v H', S H → J.yld i H v H' → ∃ T x, v = .ref T ∧ H T = none ∧ H' = upd H T (.tup [.int (i : Nat), x]) ∧ xs[i]? = some x
theorem en_list {K : PySem.W.Frag} {a : Addr} {xs : List V} : En (Ite K a) a (fun H => SqL K H a xs) xs where
  go := fun i H hi s => ⟨xs, xs[i], s, List.getElem?_eq_getElem hi⟩
  stop := fun H s => ⟨xs, s, Nat.le_refl _⟩
  yld := fun i H v H' s ⟨T, x, e1, e2, e3, f⟩ => ⟨T, x, e1, e2, e3, f xs s⟩
theorem en_tup {K : PySem.W.Frag} {a : Addr} {xs : List V} : En (En.IteT K a) a (fun H => SqT K H a xs) xs where
  go := fun i H hi s => ⟨xs, xs[i], s, List.getElem?_eq_getElem hi⟩
  stop := fun H s => ⟨xs, s, Nat.le_refl _⟩
  yld := fun i H v H' s ⟨T, x, e1, e2, e3, f⟩ => ⟨T, x, e1, e2, e3, f xs s⟩
theorem for_en {J : It} {a : Addr} {S : Hp → Prop} {xs : List V} (W : En J a S xs) {g : TG} {tb : TS} {D : Ends} {σ : L2.St} {H : Hp} (Pv : Nat → L2.St → Hp → Prop) (h0 : Pv 0 σ H) (hk : ∀ i σ H, Pv i σ H → S H)
    (hs : ∀ i σ H x T, xs[i]? = some x → Pv i σ H → H T = none → g (.ref T) σ (upd H T (.tup [.int (i : Nat), x])) fun σ2 H2 => tb { D with nx := Pv (i + 1), ct := Pv (i + 1), bk := D.nx } σ2 H2) (hd : ∀ σ H, Pv xs.length σ H → D.nx σ H) :
    ∃ W : Nat → Nat → L2.St → Hp → Prop, (∃ m, W 0 m σ H) ∧ ∀ i m σ H, W i m σ H →
      (J.stop i H ∧ D.nx σ H) ∨ (J.go i H ∧ ∃ N : L2.St → Hp → Prop, (∀ σ' H', N σ' H' → ∃ m', m' < m ∧ W (i + 1) m' σ' H') ∧ ∀ v H', J.yld i H v H' → g v σ H' fun σ2 H2 => tb { D with nx := N, ct := N, bk := D.nx } σ2 H2) := by
  refine ⟨fun i m σ H => m + i = xs.length ∧ Pv i σ H, ⟨xs.length, rfl, h0⟩, fun i m σ H ⟨e, p⟩ => ?_⟩
  cases m with
  | zero =>
    obtain rfl : i = xs.length := by omega
    exact .inl ⟨W.stop H (hk _ _ _ p), hd σ H p⟩
  | succ m =>
    refine .inr ⟨W.go i H (by omega) (hk _ _ _ p), Pv (i + 1), fun σ' H' p' => ⟨m, Nat.lt_succ_self m, by omega, p'⟩, fun v H' y => ?_⟩
    obtain ⟨T, x, rfl, hT, rfl, ex⟩ := W.yld i H v H' (hk _ _ _ p) y
    exact hs i σ H x T ex p hT
theorem pi_or {X : Cx} {tg it : Expr} {w1 w2 : TI} (h1 : PI X tg it w1) (h2 : PI X tg it w2) : PI X tg it (fun σ H R => w1 σ H R ∨ w2 σ H R) := ⟨fun pins s σ H R I h => h.elim (h1.run pins s σ H R I) (h2.run pins s σ H R I)⟩
def rTupE (K : PySem.W.Frag) : List V → Hp → VK → Prop := fun xs H Q => ∃ p ys, xs = [V.ref p] ∧ ((SqL K H p ys ∧ ∀ l, H l = none → Q (.ref l) (upd H l (.tup ys))) ∨ (SqT K H p ys ∧ Q (.ref p) H))
theorem call_tupE {X : Cx} : CallR X (.type "tuple") (rTupE X.K) := call_tuple_of
end Sq

/-! comprehensions over zip and enumerate, dict comprehensions, max(.., default=..), D.get(x) of a dict of the text -/
namespace Zp
open PySem PySem.Spec PyProof.Rows L2 Hb St Sq RZ
/-- a walk of new pairs: where S stands, at the i-th turn the i-th of ps -/
structure Wp (J : It) (S : Hp → Prop) (ps : List (V × V)) : Prop where
  go : ∀ i H, i < ps.length → S H → J.go i H
  stop : ∀ H, S H → J.stop ps.length H
  yld : ∀ i H v H', i < ps.length → S H → J.yld i H v H' → ∃ T p, v = .ref T ∧ H T = none ∧ H' = upd H T (.tup [p.1, p.2]) ∧ ps[i]? = some p
  keep : ∀ {H H' : Hp}, Same H H' → S H → S H'
theorem zip_at {xs ys : List V} {i : Nat} {x y : V} (hx : xs[i]? = some x) (hy : ys[i]? = some y) : (xs.zip ys)[i]? = some (x, y) := by
  rw [List.getElem?_zip_eq_some]
  exact ⟨hx, hy⟩
theorem wp_tup {K : PySem.W.Frag} {a b : Addr} {xs ys : List V} : Wp (ItzT K a b) (fun H => SqT K H a xs ∧ SqT K H b ys) (xs.zip ys) where
  go := fun i H hi s => by
    rw [List.length_zip] at hi
    exact ⟨xs, ys, xs[i]'(by omega), ys[i]'(by omega), s.1, s.2, List.getElem?_eq_getElem _, List.getElem?_eq_getElem _⟩
  stop := fun H s => ⟨xs, ys, s.1, s.2, by rw [List.length_zip]; omega⟩
  yld := fun i H v H' hi s ⟨T, x, y, e1, e2, e3, f, g⟩ => ⟨T, (x, y), e1, e2, e3, zip_at (f xs s.1) (g ys s.2)⟩
  keep := fun k s => ⟨tupFix (Fix.of k) s.1, tupFix (Fix.of k) s.2⟩
theorem wp_lst {K : PySem.W.Frag} {a b : Addr} {xs ys : List V} : Wp (Itz K a b) (fun H => SqL K H a xs ∧ SqL K H b ys) (xs.zip ys) where
  go := fun i H hi s => by
    rw [List.length_zip] at hi
    exact ⟨xs, ys, xs[i]'(by omega), ys[i]'(by omega), s.1, s.2, List.getElem?_eq_getElem _, List.getElem?_eq_getElem _⟩
  stop := fun H s => ⟨xs, ys, s.1, s.2, by rw [List.length_zip]; omega⟩
  yld := fun i H v H' hi s ⟨T, x, y, e1, e2, e3, f, g⟩ => ⟨T, (x, y), e1, e2, e3, zip_at (f xs s.1) (g ys s.2)⟩
  keep := fun k s => ⟨lstSame k s.1, lstSame k s.2⟩
section
variable {α : Type}
/-- a comprehension over a walk of pairs -/
theorem lc_mp {J : It} {S : Hp → Prop} {ps : List (V × V)} {ds : List α} (W : Wp J S ps) (keep : α → Bool) (Rel : Hp → V → α → Prop) {g : TG} {tt : TT} {te : TE} {vs : List Nat} {σ : L2.St} {H1 : Hp} {D : Addr} {Qd : Hp → Prop} (hS : S H1) (hD : H1 D = none)
    (hlen : ps.length = ds.length) (mono : ∀ H H' y d, Fix H H' → Rel H y d → Rel H' y d)
    (hs : ∀ i T p d H, ps[i]? = some p → ds[i]? = some d → Same H1 H → H T = some (.tup [p.1, p.2]) → MF H1 D ds keep Rel i H → g (.ref T) (wipe σ vs) H fun σ2 H2 => wipe σ2 vs = wipe σ vs ∧ tt σ2 H2 fun b H3 =>
      if b = true then te σ2 H3 fun y H4 => ∃ acc, H4 D = some (.lst acc) ∧ acc.length < sizeLine ∧ MF H1 D ds keep Rel (i + 1) (upd H4 D (.lst (acc ++ [y]))) else MF H1 D ds keep Rel (i + 1) H3)
    (hd : ∀ H ys, Same H1 H → H D = some (.lst ys) → All2 (Rel H) ys (ds.filter keep) → Qd H) :
    ∃ W : Nat → Nat → Hp → Prop, (∃ m, W 0 m (upd H1 D (.lst []))) ∧ ∀ i m H, W i m H →
      (J.stop i H ∧ Qd H) ∨ (J.go i H ∧ ∃ Nx : Hp → Prop, (∀ H', Nx H' → ∃ m', m' < m ∧ W (i + 1) m' H') ∧ ∀ v H', J.yld i H v H' → g v (wipe σ vs) H' fun σ2 H2 => wipe σ2 vs = wipe σ vs ∧ tt σ2 H2 fun b H3 =>
        if b = true then te σ2 H3 fun y H4 => ∃ acc, H4 D = some (.lst acc) ∧ acc.length < sizeLine ∧ Nx (upd H4 D (.lst (acc ++ [y]))) else Nx H3) := by
  have stand : ∀ {H}, Same H1 H → S H := fun {H} s => W.keep s hS
  refine ⟨fun i m H => m + i = ps.length ∧ MF H1 D ds keep Rel i H, ⟨ps.length, rfl, fun b o e => by rw [upd_ne (ne_of_none e hD)]; exact e, [], upd_same, .nil⟩, fun i m H ⟨e, p⟩ => ?_⟩
  cases m with
  | zero =>
    obtain rfl : i = ps.length := by omega
    obtain ⟨ys, ey, al⟩ := p.acc
    refine .inl ⟨W.stop H (stand p.same), hd H ys p.same ey ?_⟩
    rw [List.take_of_length_le (by omega)] at al
    exact al
  | succ m =>
    have hi : i < ps.length := by omega
    refine .inr ⟨W.go i H hi (stand p.same), MF H1 D ds keep Rel (i + 1), fun H' p' => ⟨m, Nat.lt_succ_self m, by omega, p'⟩, fun v H' y => ?_⟩
    obtain ⟨T, x, rfl, hT, rfl, ex⟩ := W.yld i H v H' hi (stand p.same) y
    have s2 := same_new hT (.tup [x.1, x.2])
    obtain ⟨s1, ys, ey, al⟩ := p
    exact hs i T x ds[i] _ ex (List.getElem?_eq_getElem (by omega)) (s1.trans s2) upd_same ⟨s1.trans s2, ys, s2 _ _ ey, al.imp fun _ _ q => mono _ _ _ _ (Fix.of s2) q⟩
/-- a dict comprehension over enumerate: kvs of the first i items -/
theorem dc_en {J : It} {a : Addr} {S : Hp → Prop} {xs : List V} (W : Sq.En J a S xs) (kv : Nat → List (L2.Key × V)) {g : TG} {tt : TT} {tk tv : TE} {vs : List Nat} {σ : L2.St} {H1 : Hp} {D : Addr} {Qd : Hp → Prop} (hS : ∀ {H}, Same H1 H → S H) (hD : H1 D = none)
    (h0 : kv 0 = []) (hl : ∀ i, (kv i).length < sizeLine)
    (hs : ∀ i T x H, xs[i]? = some x → Same H1 H → H T = some (.tup [.int (i : Nat), x]) → H D = some (.dK (kv i)) → g (.ref T) (wipe σ vs) H fun σ2 H2 => wipe σ2 vs = wipe σ vs ∧ tt σ2 H2 fun b H3 =>
      b = true ∧ tk σ2 H3 fun y H4 => tv σ2 H4 fun z H5 => Same H H5 ∧ ∃ k, y = kV k ∧ putK (kv i) k z = kv (i + 1))
    (hd : ∀ H, Same H1 H → H D = some (.dK (kv xs.length)) → Qd H) (mono : ∀ {σ H} {Q Q' : L2.St → Hp → Prop}, (∀ σ H, Q σ H → Q' σ H) → ∀ v, g v σ H Q → g v σ H Q') (monot : ∀ {σ H} {Q Q' : Bool → Hp → Prop}, (∀ b H, Q b H → Q' b H) → tt σ H Q → tt σ H Q')
    (monok : ∀ {σ H} {Q Q' : VK}, (∀ v H, Q v H → Q' v H) → tk σ H Q → tk σ H Q') (monov : ∀ {σ H} {Q Q' : VK}, (∀ v H, Q v H → Q' v H) → tv σ H Q → tv σ H Q') :
    ∃ W : Nat → Nat → Hp → Prop, (∃ m, W 0 m (upd H1 D (.dK []))) ∧ ∀ i m H, W i m H →
      (J.stop i H ∧ Qd H) ∨ (J.go i H ∧ ∃ Nx : Hp → Prop, (∀ H', Nx H' → ∃ m', m' < m ∧ W (i + 1) m' H') ∧ ∀ v H', J.yld i H v H' → g v (wipe σ vs) H' fun σ2 H2 => wipe σ2 vs = wipe σ vs ∧ tt σ2 H2 fun b H3 =>
        if b = true then tk σ2 H3 fun y H4 => tv σ2 H4 fun z H5 => ∃ kvs k, y = kV k ∧ H5 D = some (.dK kvs) ∧ kvs.length < sizeLine ∧ Nx (upd H5 D (.dK (putK kvs k z))) else Nx H3) := by
  refine ⟨fun i m H => m + i = xs.length ∧ Same H1 H ∧ H D = some (.dK (kv i)), ⟨xs.length, rfl, fun b o e => by rw [upd_ne (ne_of_none e hD)]; exact e, by rw [upd_same, h0]⟩, fun i m H ⟨e, s, eD⟩ => ?_⟩
  cases m with
  | zero =>
    obtain rfl : i = xs.length := by omega
    exact .inl ⟨W.stop H (hS s), hd H s eD⟩
  | succ m =>
    have hi : i < xs.length := by omega
    refine .inr ⟨W.go i H hi (hS s), fun H' => Same H1 H' ∧ H' D = some (.dK (kv (i + 1))), fun H' p' => ⟨m, Nat.lt_succ_self m, by omega, p'⟩, fun v H' y => ?_⟩
    obtain ⟨T, x, rfl, hT, rfl, ex⟩ := W.yld i H v H' (hS s) y
    have s2 := same_new hT (.tup [.int (i : Nat), x])
    refine mono (fun σ2 H2 q => ⟨q.1, monot (fun b H3 q => ?_) q.2⟩) _ (hs i T x _ ex (s.trans s2) upd_same (s2 _ _ eD))
    obtain ⟨rfl, q⟩ := q
    rw [if_pos rfl]
    refine monok (fun y H4 q => monov (fun z H5 q => ?_) q) q
    obtain ⟨s3, k, ek, ep⟩ := q
    refine ⟨_, k, ek, s3 _ _ (s2 _ _ eD), hl i, fun b o e => ?_, by rw [upd_same, ep]⟩
    rw [upd_ne (ne_of_none e hD)]
    exact s3 _ _ ((s.trans s2) _ _ e)
end
/-! ### max(xs, default=d) -/
def rMaxDf (K : PySem.W.Frag) : List V → List V → Hp → VK → Prop := fun xs zs H Q => ∃ (a : Addr) (ns : List Int) (d : Int), xs = [.ref a] ∧ zs = [.int d] ∧ SqL K H a (ns.map V.int) ∧ (ns = [] → Q (.int d) H) ∧ ∀ m, m ∈ ns → (∀ y ∈ ns, y ≤ m) → Q (.int m) H
theorem maxOf_is (x : Int) : ∀ xs : List Int, PySem.W.maxOf x xs ∈ x :: xs ∧ ∀ y ∈ x :: xs, y ≤ PySem.W.maxOf x xs := by
  intro xs
  unfold PySem.W.maxOf
  induction xs generalizing x with
  | nil => exact ⟨List.mem_cons_self, fun y hy => by rw [List.mem_singleton.mp hy]; exact Int.le_refl _⟩
  | cons z xs ih =>
    rw [List.foldl_cons]
    by_cases c : PySem.W.DatumOrd.lt x z = true
    · rw [if_pos c]
      have c' : x < z := of_decide_eq_true c
      obtain ⟨h1, h2⟩ := ih z
      refine ⟨List.mem_cons_of_mem _ h1, fun y hy => ?_⟩
      rcases List.mem_cons.mp hy with e | hy
      · have := h2 z List.mem_cons_self
        omega
      · exact h2 y hy
    · rw [if_neg c]
      have c' : ¬ x < z := fun q => c (decide_eq_true q)
      obtain ⟨h1, h2⟩ := ih x
      have hx := h2 x List.mem_cons_self
      refine ⟨?_, fun y hy => ?_⟩
      · rcases List.mem_cons.mp h1 with e | h1
        · rw [e]; exact List.mem_cons_self
        · exact List.mem_cons_of_mem _ (List.mem_cons_of_mem _ h1)
      · rcases List.mem_cons.mp hy with e | hy
        · omega
        · rcases List.mem_cons.mp hy with e | hy
          · omega
          · exact h2 y (List.mem_cons_of_mem _ hy)
theorem cr_maxDf {X : Cx} (hc : X.calm = true) (hu : X.A.units + 64 < cLine) : CallRK X (.builtin "max") ["default"] (rMaxDf X.K) := by
  intro pins s σ H xs zs us ws Q I r1 r2 h
  obtain ⟨a, ns, d, rfl, rfl, hs, q0, q1⟩ := h
  obtain ⟨its, rv, hl, _⟩ := I.list hs
  cases r2 with
  | cons rd rt =>
    cases rt
    obtain ⟨t, rfl⟩ := rd
    rw [Vals.ref1 r1]
    show wpAny (model X.prog X.w) X.A (call (.builtin "max") [.ref a] [(Str.ofString "default", _)]) _ _ s
    refine PySem.W.max_list_datum_default (α := Int) (I.ok.hd hc) hl.isList (PySem.W.HoldAll.of_ints rv.ints) (by show X.A.units + 1 + 0 < cLine; omega) (fun e h' tk hk => ⟨.int d, H, I.kept hk, ⟨_, rfl⟩, q0 e⟩) fun y ys i v h' tk e hv hh hk => ?_
    obtain ⟨as, hr⟩ := hh
    obtain ⟨m1, m2⟩ := maxOf_is y ys
    generalize PySem.W.maxOf y ys = m at hr m1 m2
    have hr : Reads h' v (.int m) as := hr
    cases hr with
    | int _ t => exact ⟨.int m, H, I.kept hk, ⟨t, rfl⟩, q1 m (e ▸ m1) fun y hy => m2 y (e ▸ hy)⟩
/-! ### D.get(x), D a dict of the text -/
def tKGet (K : PySem.W.Frag) (w : World) (p : Addr) (ty : TE) : TE := fun σ H Q => ty σ H fun y H2 => ∃ z v, y = .str z ∧ KDct K w p z v ∧ Q v H2
theorem pe_kget {X : Cx} {x : Str} {xp : Pos} {e : Expr} {apos cpos : Pos} {ty : TE} {p : Addr} {es : Array DictEntry} {n : Nat} (D : KDict X.K X.w p es n) (hg : Gl X x) (hm : X.mg x = some (.ref p)) (he : PE X e ty) (m : M1 X (.Name x xp) "get" apos e cpos) (hdb : (x == ("__debug__" : Str)) = false := by decide) :
    PE X (.Call (.Attribute (.Name x xp) "get" apos) [e] [] cpos) (tKGet X.K X.w p ty) := by
  refine ⟨fun pins s σ H Q I h => ?_⟩
  have ho : PE X (.Name x xp) (tC (.ref p)) := pe_glob hg hm rfl hdb
  refine wpAny_Call_method m.base m.few m.line PySem.F.plainAttrs_dict PySem.F.slot_dict_get PySem.F.type_dict_get (thn (ho.run pins s σ H (fun x H1 => x = .ref p ∧ H1 = H) I ⟨rfl, rfl⟩) fun u s1 ⟨x, H1, I1, rx, ex, eH⟩ => ?_)
  subst ex eH
  obtain rfl : u = Value.ref p := rx
  have mo := PySem.W.mapOf_K (prog := X.prog) (w := X.w) I1.kIn D.at_ D.lit
  refine ⟨mo.typeIs, fun b q => ?_, ?_⟩
  · cases q
    exact ⟨_, I1.kIn _ _ D.at_, rfl⟩
  rw [m.trees]
  refine Calls.callWith_builtin rfl (Calls.evalArgs_plain (Calls.spliced_cons (thn (he.run pins s1 σ H1 _ I1 h) fun iv s2 ⟨y, H2, I2, ry, z, v, ey, ⟨es', n', u0, hl, hk, eu, ru⟩, q2⟩ => Calls.spliced_nil ?_)))
  subst ey
  obtain ⟨t, rfl⟩ := ry
  have mo2 := PySem.W.mapOf_K (prog := X.prog) (w := X.w) I2.kIn hl hk
  refine call_meetsIn PySem.F.slot_dict_get mo2.typeIs PySem.F.entry_dict_get (PySem.F.args_dict_get_2 _ _) (meets_dict_get _ p (strKind_is X.prog X.w z t) D.low) ⟨_, mo2, ?_⟩
  rw [PySem.W.find_K hl eu]
  exact ⟨v, H2, I2.tok _, ru, q2⟩
end Zp
namespace Zp
open PySem PySem.Spec PyProof.Rows L2 Hb St Sq RZ
theorem pe_or2 {X : Cx} {e : Expr} {t1 t2 : TE} (h1 : PE X e t1) (h2 : PE X e t2) : PE X e (fun σ H Q => t1 σ H Q ∨ t2 σ H Q) := ⟨fun pins s σ H Q I h => h.elim (h1.run pins s σ H Q I) (h2.run pins s σ H Q I)⟩
theorem _root_.L2.Room.units65 {k : Nat} {A : Around} (r : Room k A) : A.units + 65 < cLine := by have := r.un; omega
end Zp

/-! readings -/
namespace Rd
open PySem PySem.Spec PyProof.Rows L2 Hb St Sq RZ
section
variable {K : PySem.W.Frag} {H : Hp} {Q : VK}
theorem ty_tup {a : Addr} {xs : List V} (h : SqT K H a xs) : TyX K H (.ref a) (.type "tuple") := by
  rcases h with (e | ⟨o, e⟩) | ⟨o, its, n, e, c, _⟩
  · exact .base (.tup e)
  · exact .fTuple e
  · exact .kTuple e c
theorem ty_lst {a : Addr} {xs : List V} (h : SqL K H a xs) : TyX K H (.ref a) (.type "list") := by
  rcases h with (e | ⟨o, e⟩) | ⟨o, its, n, e, c, _⟩
  · exact .base (.lst e)
  · exact .base (.frz e)
  · exact .kList e c
theorem rd_isTup {a : Addr} {xs : List V} (h : SqT K H a xs) (q : Q (.bl true) H) : rIsi K [.ref a, .ty "tuple"] H Q := ⟨_, _, _, _, _, rfl, .ty "tuple", ty_tup h, kit_ty (r := true) (by decide +kernel), q⟩
theorem rd_noTupL {a : Addr} {xs : List V} (h : SqL K H a xs) (q : Q (.bl false) H) : rIsi K [.ref a, .ty "tuple"] H Q := ⟨_, _, _, _, _, rfl, .ty "tuple", ty_lst h, kit_ty (r := false) (by decide +kernel), q⟩
theorem rd_noTupS {x : Str} (q : Q (.bl false) H) : rIsi K [.str x, .ty "tuple"] H Q := ⟨_, _, _, _, _, rfl, .ty "tuple", .base (.str x), kit_ty (r := false) (by decide +kernel), q⟩
theorem rd_noTupI {i : Int} (q : Q (.bl false) H) : rIsi K [.int i, .ty "tuple"] H Q := ⟨_, _, _, _, _, rfl, .ty "tuple", .base (.int i), kit_ty (r := false) (by decide +kernel), q⟩
theorem rd_isStr {x : Str} (q : Q (.bl true) H) : rIsi K [.str x, .ty "str"] H Q := ⟨_, _, _, _, _, rfl, .ty "str", .base (.str x), kit_ty (r := true) (by decide +kernel), q⟩
theorem rd_noStr {i : Int} (q : Q (.bl false) H) : rIsi K [.int i, .ty "str"] H Q := ⟨_, _, _, _, _, rfl, .ty "str", .base (.int i), kit_ty (r := false) (by decide +kernel), q⟩
theorem sIx1 {n : Nat} (h : 1 ≤ n) : HT.sIx n 0 (some 1) = 1 := by rw [show (1 : Int) = ((1 : Nat) : Int) from rfl, HT.sIx_nat]; omega
theorem cut1 {v : V} {xs : List V} : cutV (v :: xs) (some 1) none = xs := by
  unfold cutV
  rw [sIx1 (by simp), HT.sIx_none, List.drop_one, List.tail_cons, List.take_of_length_le (by simp)]
/-- a tuple from its second thing on -/
theorem rd_tail {a : Addr} {v : V} {xs : List V} (h : SqT K H a (v :: xs)) (q : ∀ p H', H p = none → Same H H' → H' p = some (.tup xs) → Q (.ref p) H') : rSlA K (.ref a) (some 1) none H Q := by
  refine ⟨a, _, rfl, h, fun ⟨z, _⟩ => ?_, fun _ p hp => ?_⟩
  · rw [sIx1 (by simp)] at z
    cases z
  · rw [cut1]
    exact q p _ hp (same_new hp _) upd_same
theorem rd_all {a : Addr} {bs : List Bool} (h : SqL K H a (bs.map V.bl)) (q : Q (.bl (bs.all id)) H) : rAll K [.ref a] H Q := ⟨a, bs, rfl, h, q⟩
theorem bl_true {α : Type} {ys : List V} {ds : List α} (h : All2 (fun (y : V) (_ : α) => y = .bl true) ys ds) : ys = (ds.map fun _ => true).map V.bl := by
  rw [List.map_map]
  exact h.map_eq fun a b e => e
theorem rd_allT {α : Type} {a : Addr} {ys : List V} {ds : List α} (h : H a = some (.lst ys)) (al : All2 (fun (y : V) (_ : α) => y = .bl true) ys ds) (q : Q (.bl true) H) : rAll K [.ref a] H Q := by
  refine rd_all (bs := ds.map fun _ => true) (SqL.of (by rw [← bl_true al]; exact h)) ?_
  rw [show ((ds.map fun _ => true).all id) = true by simp]
  exact q
theorem at_map {α β : Type} {f : α → β} {l : List α} {i : Nat} {x : β} {d : α} (h : (l.map f)[i]? = some x) (k : l[i]? = some d) : x = f d := by
  rw [List.getElem?_map, k] at h
  exact (Option.some.inj h).symm
theorem at_mem {α : Type} {l : List α} {i : Nat} {d : α} (k : l[i]? = some d) : d ∈ l := List.mem_of_getElem? k
theorem filter_all {α : Type} (l : List α) : l.filter (fun _ => true) = l := List.filter_eq_self.mpr fun _ _ => rfl
/-- an item from behind -/
theorem at_last {xs : List V} {x : V} : atI (xs ++ [x]) (-1) = some x := by
  unfold atI ixN
  rw [List.length_append, if_neg (by decide), if_pos (by simp; omega)]
  show (xs ++ [x])[(-1 + ((xs.length + [x].length : Nat) : Int)).toNat]? = some x
  rw [show (-1 + ((xs.length + [x].length : Nat) : Int)).toNat = xs.length by simp; omega, List.getElem?_append_right (Nat.le_refl _), Nat.sub_self]
  rfl
theorem at_nat {α : Type} {xs : List α} {i : Nat} {x : α} (h : xs[i]? = some x) : atI xs (i : Nat) = some x := by
  have hi := (List.getElem?_eq_some_iff.mp h).1
  unfold atI ixN
  rw [if_pos (by omega), if_pos (by omega)]
  exact h
theorem at0 {α : Type} {x : α} {xs : List α} : atI (x :: xs) 0 = some x := at_nat (i := 0) rfl
theorem at1 {α : Type} {x y : α} {xs : List α} : atI (x :: y :: xs) 1 = some y := at_nat (i := 1) rfl
theorem at2 {α : Type} {x y z : α} {xs : List α} : atI (x :: y :: z :: xs) 2 = some z := at_nat (i := 2) rfl
theorem rd_slc {σ : L2.St} {i : Nat} {a : Addr} {v : V} {xs : List V} {tr : TA} {R : List V → Hp → Prop} (e : σ[i]? = some (some (.ref a))) (h : SqT K H a (v :: xs)) (q : ∀ p H', H p = none → Same H H' → H' p = some (.tup xs) → tr σ H' fun ys H2 => R (.ref p :: ys) H2) :
    tCons (tSl (rSlA K) (tVar i) (tPart (tC (.int 1))) tNoPart) tr σ H R := by
  refine ⟨_, e, 1, rfl, ?_⟩
  exact rd_tail (Q := fun x H1 => tr σ H1 fun ys H2 => R (x :: ys) H2) h q
end
end Rd

namespace Ks
universe u
section
variable {β : Type u} (n : Nat) (ok : β → Nat → Bool)
/-! ### layings: strictly rising numbers, each fit for its thing -/
def nxt (laid : List Nat) : Nat := match laid.getLast? with
  | none => 0
  | some a => a + 1
def ext (h : β) (laid : List Nat) : List (List Nat) := ((List.range n).filter fun a => decide (nxt laid ≤ a) && ok h a).map fun a => laid ++ [a]
def lays : List β → List (List Nat) := List.foldl (fun found h => found.flatMap (ext n ok h)) [[]]
structure IsLay (hs : List β) (laid : List Nat) : Prop where
  len : laid.length = hs.length
  asc : laid.Pairwise (· < ·)
  fit : ∀ (i : Nat) a h, laid[i]? = some a → hs[i]? = some h → a < n ∧ ok h a = true
variable {n ok}
theorem lays_snoc (hs : List β) (h : β) : lays n ok (hs ++ [h]) = (lays n ok hs).flatMap (ext n ok h) := by
  unfold lays; rw [List.foldl_append]; rfl
theorem nxt_nil : nxt [] = 0 := rfl
theorem nxt_snoc (laid : List Nat) (a : Nat) : nxt (laid ++ [a]) = a + 1 := by unfold nxt; rw [List.getLast?_concat]
theorem nxt_le {laid : List Nat} (asc : laid.Pairwise (· < ·)) {m : Nat} : nxt laid ≤ m ↔ ∀ a ∈ laid, a < m := by
  rcases List.eq_nil_or_concat laid with rfl | ⟨l, b, rfl⟩
  · simp [nxt_nil]
  · rw [List.concat_eq_append] at *
    rw [nxt_snoc]
    rw [List.pairwise_append] at asc
    constructor
    · intro h a ha
      rcases List.mem_append.mp ha with ha | ha
      · have := asc.2.2 a ha b (List.mem_singleton.mpr rfl); omega
      · rw [List.mem_singleton.mp ha]; omega
    · intro h; exact h b (List.mem_append_right _ (List.mem_singleton.mpr rfl))
theorem IsLay.snoc {hs : List β} {laid : List Nat} {h : β} {a : Nat} : IsLay n ok (hs ++ [h]) (laid ++ [a]) ↔ IsLay n ok hs laid ∧ nxt laid ≤ a ∧ a < n ∧ ok h a = true := by
  constructor
  · rintro ⟨l, asc, fit⟩
    have l' : laid.length = hs.length := by rw [List.length_append, List.length_append] at l; simpa using l
    rw [List.pairwise_append] at asc
    refine ⟨⟨l', asc.1, fun i b g hb hg => fit i b g ?_ ?_⟩, (nxt_le asc.1).mpr fun b hb => asc.2.2 b hb a (List.mem_singleton.mpr rfl), ?_⟩
    · rw [List.getElem?_append_left (List.getElem?_eq_some_iff.mp hb).1]; exact hb
    · rw [List.getElem?_append_left (List.getElem?_eq_some_iff.mp hg).1]; exact hg
    · exact fit laid.length a h (by rw [List.getElem?_append_right (Nat.le_refl _)]; simp) (by rw [l', List.getElem?_append_right (Nat.le_refl _)]; simp)
  · rintro ⟨⟨l, asc, fit⟩, hn, ha, hk⟩
    refine ⟨by rw [List.length_append, List.length_append, l]; rfl, ?_, fun i b g hb hg => ?_⟩
    · rw [List.pairwise_append]
      exact ⟨asc, List.pairwise_singleton _ _, fun x hx y hy => by rw [List.mem_singleton.mp hy]; exact (nxt_le asc).mp hn x hx⟩
    · by_cases c : i < laid.length
      · rw [List.getElem?_append_left c] at hb
        rw [List.getElem?_append_left (l ▸ c)] at hg
        exact fit i b g hb hg
      · rw [List.getElem?_append_right (by omega)] at hb
        rw [List.getElem?_append_right (by omega)] at hg
        have e : i - laid.length = 0 := by
          have := (List.getElem?_eq_some_iff.mp hb).1
          rw [List.length_singleton] at this; omega
        rw [e] at hb
        rw [show i - hs.length = 0 by omega] at hg
        cases (Option.some.inj hb : a = b)
        cases (Option.some.inj hg : h = g)
        exact ⟨ha, hk⟩
theorem IsLay.nil {laid : List Nat} : IsLay n ok ([] : List β) laid ↔ laid = [] := by
  constructor
  · intro h; exact List.eq_nil_of_length_eq_zero h.len
  · rintro rfl; exact ⟨rfl, List.Pairwise.nil, fun i a h e => by simp at e⟩
theorem mem_lays : ∀ (r : List β) (laid : List Nat), laid ∈ lays n ok r.reverse ↔ IsLay n ok r.reverse laid
  | [], laid => by
    show laid ∈ [[]] ↔ _
    rw [List.mem_singleton]; exact IsLay.nil.symm
  | h :: r, laid => by
    rw [List.reverse_cons, lays_snoc, List.mem_flatMap]
    constructor
    · rintro ⟨l, hl, hx⟩
      obtain ⟨a, ha, rfl⟩ := List.mem_map.mp hx
      have := (List.mem_filter.mp ha)
      rw [Bool.and_eq_true, decide_eq_true_iff] at this
      exact IsLay.snoc.mpr ⟨(mem_lays r l).mp hl, this.2.1, List.mem_range.mp this.1, this.2.2⟩
    · intro hl
      rcases List.eq_nil_or_concat laid with rfl | ⟨l, a, rfl⟩
      · have := hl.len; simp at this
      · rw [List.concat_eq_append] at *
        obtain ⟨h1, h2, h3, h4⟩ := IsLay.snoc.mp hl
        refine ⟨l, (mem_lays r l).mpr h1, List.mem_map.mpr ⟨a, List.mem_filter.mpr ⟨List.mem_range.mpr h3, ?_⟩, rfl⟩⟩
        rw [Bool.and_eq_true, decide_eq_true_iff]; exact ⟨h2, h4⟩
theorem mem_lay {hs : List β} {laid : List Nat} : laid ∈ lays n ok hs ↔ IsLay n ok hs laid := by
  have := mem_lays (n := n) (ok := ok) hs.reverse laid
  rwa [List.reverse_reverse] at this
/-! ### how many -/
/-- how many layings of r (from the last thing on) with all numbers below m -/
def cnt (ok : β → Nat → Bool) : Nat → List β → Nat
  | _, [] => 1
  | 0, _ :: _ => 0
  | m + 1, h :: r => cnt ok m (h :: r) + if ok h m = true then cnt ok m r else 0
theorem cnt_nil (m : Nat) : cnt ok m ([] : List β) = 1 := by cases m <;> rfl
theorem filter_flat {α γ : Type _} (p : γ → Bool) (g : α → List γ) : ∀ l : List α, (l.flatMap g).filter p = l.flatMap fun a => (g a).filter p
  | [] => rfl
  | a :: l => by rw [List.flatMap_cons, List.flatMap_cons, List.filter_append, filter_flat p g l]
theorem len_flat_add {α γ δ : Type _} (g : α → List γ) (g1 : α → List δ) (q : α → Bool) (h : ∀ a, (g a).length = (g1 a).length + if q a = true then 1 else 0) : ∀ l : List α, (l.flatMap g).length = (l.flatMap g1).length + (l.filter q).length
  | [] => rfl
  | a :: l => by
    rw [List.flatMap_cons, List.flatMap_cons, List.length_append, List.length_append, h a, len_flat_add g g1 q h l, List.filter_cons]
    by_cases c : q a = true
    · rw [if_pos c, if_pos c, List.length_cons]; omega
    · rw [if_neg c, if_neg c]; omega
theorem below_ext (h : β) (laid : List Nat) (m : Nat) : ((ext n ok h laid).filter fun l => decide (nxt l ≤ m)).length = ((List.range n).filter fun a => (decide (nxt laid ≤ a) && ok h a) && decide (a < m)).length := by
  unfold ext
  rw [List.filter_map, List.length_map, List.filter_filter]
  congr 1
  refine List.filter_congr fun a _ => ?_
  show (decide (nxt (laid ++ [a]) ≤ m) && _) = _
  rw [nxt_snoc, Bool.and_comm]
  rfl
theorem range_cut (q : Nat → Bool) {m : Nat} (hm : m < n) : ((List.range n).filter fun a => q a && decide (a < m + 1)).length = ((List.range n).filter fun a => q a && decide (a < m)).length + if q m = true then 1 else 0 := by
  obtain ⟨d, rfl⟩ : ∃ d, n = m + 1 + d := ⟨n - (m + 1), by omega⟩
  rw [List.range_add, List.filter_append, List.filter_append, List.length_append, List.length_append]
  have z : ∀ k, k ≤ m + 1 → ((List.range d).map (m + 1 + ·)).filter (fun a => q a && decide (a < k)) = [] := fun k hk => by
    rw [List.filter_eq_nil_iff]
    intro a ha
    obtain ⟨b, _, rfl⟩ := List.mem_map.mp ha
    rw [decide_eq_false (by omega), Bool.and_false]; exact Bool.false_ne_true
  rw [z (m + 1) (Nat.le_refl _), z m (Nat.le_succ _), List.range_succ, List.filter_append, List.filter_append, List.length_append, List.length_append]
  have e1 : (List.range m).filter (fun a => q a && decide (a < m + 1)) = (List.range m).filter (fun a => q a && decide (a < m)) := List.filter_congr fun a ha => by
    have := List.mem_range.mp ha
    rw [decide_eq_true (show a < m + 1 by omega), decide_eq_true this]
  rw [e1]
  have e2 : ([m].filter fun a => q a && decide (a < m)) = [] := by
    rw [List.filter_eq_nil_iff]; intro a ha; rw [List.mem_singleton.mp ha, decide_eq_false (Nat.lt_irrefl _), Bool.and_false]; exact Bool.false_ne_true
  rw [e2]
  by_cases c : q m = true
  · rw [if_pos c, List.filter_cons_of_pos (by rw [c, decide_eq_true (Nat.lt_succ_self _)]; rfl)]; simp
  · rw [if_neg c, List.filter_cons_of_neg (by rw [Bool.not_eq_true] at c; rw [c]; exact Bool.false_ne_true)]; simp
theorem count_eq : ∀ (r : List β) (m : Nat), m ≤ n → ((lays n ok r.reverse).filter fun l => decide (nxt l ≤ m)).length = cnt ok m r
  | [], m, _ => by
    rw [cnt_nil]
    show ([[]].filter fun l => decide (nxt l ≤ m)).length = 1
    rw [List.filter_cons_of_pos (by rw [nxt_nil]; exact decide_eq_true (Nat.zero_le _))]; rfl
  | h :: r, 0, _ => by
    rw [List.reverse_cons, lays_snoc, filter_flat]
    show _ = 0
    rw [List.length_eq_zero_iff, List.flatMap_eq_nil_iff]
    intro l _
    have := below_ext (n := n) (ok := ok) h l 0
    rw [← List.length_eq_zero_iff, this, List.length_eq_zero_iff, List.filter_eq_nil_iff]
    intro a _
    rw [decide_eq_false (Nat.not_lt_zero _), Bool.and_false]; exact Bool.false_ne_true
  | h :: r, m + 1, hm => by
    have ih1 := count_eq (h :: r) m (by omega)
    have ih2 := count_eq r m (by omega)
    rw [List.reverse_cons, lays_snoc, filter_flat] at ih1 ⊢
    show _ = cnt ok m (h :: r) + if ok h m = true then cnt ok m r else 0
    rw [← ih1, ← ih2]
    have key := len_flat_add (fun l => (ext n ok h l).filter fun l => decide (nxt l ≤ m + 1)) (fun l => (ext n ok h l).filter fun l => decide (nxt l ≤ m)) (fun l => decide (nxt l ≤ m) && ok h m) (fun l => by
      rw [below_ext, below_ext, range_cut (fun a => decide (nxt l ≤ a) && ok h a) (by omega)]) (lays n ok r.reverse)
    rw [key]
    congr 1
    by_cases c : ok h m = true
    · rw [if_pos c]
      congr 1
      exact List.filter_congr fun l _ => by rw [c, Bool.and_true]
    · rw [if_neg c]
      rw [Bool.not_eq_true] at c
      rw [List.length_eq_zero_iff, List.filter_eq_nil_iff]
      intro l _
      rw [c, Bool.and_false]; exact Bool.false_ne_true
theorem count_all (r : List β) : (lays n ok r.reverse).length = cnt ok n r := by
  rw [← count_eq r n (Nat.le_refl _)]
  congr 1
  rw [List.filter_eq_self.mpr]
  intro l hl
  have il := (mem_lays r l).mp hl
  rw [decide_eq_true_iff, nxt_le il.asc]
  intro a ha
  obtain ⟨i, hi⟩ := List.mem_iff_getElem?.mp ha
  have hlt := (List.getElem?_eq_some_iff.mp hi).1
  exact (il.fit i a _ hi (List.getElem?_eq_getElem (by rw [← il.len]; exact hlt))).1
end
end Ks

namespace Ks
universe u
section
variable {β : Type u} {n : Nat} {ok : β → Nat → Bool}
/-! ### the greedy laying -/
def fst (n : Nat) (ok : β → Nat → Bool) (k : Nat) (h : β) : Option Nat := (List.range n).find? fun a => decide (k ≤ a) && ok h a
def gr (n : Nat) (ok : β → Nat → Bool) : List β → Nat → List Nat
  | [], _ => []
  | h :: hs, k => match fst n ok k h with
    | none => []
    | some a => a :: gr n ok hs (a + 1)
theorem fst_some {k a : Nat} {h : β} : fst n ok k h = some a ↔ (k ≤ a ∧ ok h a = true) ∧ a < n ∧ ∀ b, b < a → k ≤ b → ok h b = false := by
  unfold fst
  rw [List.find?_range_eq_some, List.mem_range, Bool.and_eq_true, decide_eq_true_iff]
  constructor
  · rintro ⟨p, q, r⟩
    refine ⟨p, q, fun b hb hk => ?_⟩
    have := r b hb
    rw [decide_eq_true hk, Bool.true_and] at this
    simpa using this
  · rintro ⟨p, q, r⟩
    refine ⟨p, q, fun b hb => ?_⟩
    by_cases c : k ≤ b
    · rw [decide_eq_true c, Bool.true_and, r b hb c]; rfl
    · rw [decide_eq_false c]; rfl
theorem fst_none {k : Nat} {h : β} : fst n ok k h = none ↔ ∀ b, b < n → k ≤ b → ok h b = false := by
  unfold fst
  rw [List.find?_eq_none]
  constructor
  · intro p b hb hk
    have := p b (List.mem_range.mpr hb)
    rw [decide_eq_true hk, Bool.true_and] at this
    simpa using this
  · intro p b hb
    have hb := List.mem_range.mp hb
    by_cases c : k ≤ b
    · rw [p b hb c, Bool.and_false]; exact Bool.false_ne_true
    · rw [decide_eq_false c, Bool.false_and]; exact Bool.false_ne_true
theorem fst_le {k k' a : Nat} {h : β} (hk : k' ≤ k) (ha : k ≤ a) (hn : a < n) (ho : ok h a = true) : ∃ b, fst n ok k' h = some b ∧ b ≤ a := by
  cases e : fst n ok k' h with
  | none => rw [fst_none.mp e a hn (by omega)] at ho; cases ho
  | some b =>
    refine ⟨b, rfl, ?_⟩
    have := (fst_some.mp e).2.2
    refine Decidable.byContradiction fun c => ?_
    have := this a (by omega) (by omega)
    rw [ho] at this; cases this
def LayF (n : Nat) (ok : β → Nat → Bool) : Nat → List β → List Nat → Prop
  | _, [], [] => True
  | k, h :: hs, a :: l => k ≤ a ∧ a < n ∧ ok h a = true ∧ LayF n ok (a + 1) hs l
  | _, _, _ => False
theorem layF_iff : ∀ (hs : List β) (k : Nat) (l : List Nat), LayF n ok k hs l ↔ IsLay n ok hs l ∧ ∀ a ∈ l, k ≤ a
  | [], k, l => by
    rw [IsLay.nil]
    cases l with
    | nil => simp [LayF]
    | cons a l => simp [LayF]
  | h :: hs, k, [] => by
    constructor
    · intro h; exact h.elim
    · rintro ⟨h, _⟩
      have := h.len
      simp at this
  | h :: hs, k, a :: l => by
    show (k ≤ a ∧ a < n ∧ ok h a = true ∧ LayF n ok (a + 1) hs l) ↔ _
    rw [layF_iff hs (a + 1) l]
    constructor
    · rintro ⟨h1, h2, h3, ⟨i1, i2, i3⟩, h4⟩
      refine ⟨⟨by rw [List.length_cons, List.length_cons, i1], List.pairwise_cons.mpr ⟨fun b hb => h4 b hb, i2⟩, fun i b g hb hg => ?_⟩, fun b hb => ?_⟩
      · cases i with
        | zero =>
          rw [List.getElem?_cons_zero] at hb hg
          cases hb; cases hg
          exact ⟨h2, h3⟩
        | succ i => exact i3 i b g (by simpa using hb) (by simpa using hg)
      · rcases List.mem_cons.mp hb with rfl | hb
        · exact h1
        · have := h4 b hb; omega
    · rintro ⟨⟨i1, i2, i3⟩, h4⟩
      have h0 := i3 0 a h rfl rfl
      rw [List.pairwise_cons] at i2
      exact ⟨h4 a List.mem_cons_self, h0.1, h0.2, ⟨by simpa using i1, i2.2, fun i b g hb hg => i3 (i + 1) b g (by simpa using hb) (by simpa using hg)⟩, fun b hb => i2.1 b hb⟩
theorem lay0 {hs : List β} {l : List Nat} : IsLay n ok hs l ↔ LayF n ok 0 hs l := by
  rw [layF_iff]
  exact ⟨fun h => ⟨h, fun _ _ => Nat.zero_le _⟩, fun h => h.1⟩
theorem gr_len : ∀ (hs : List β) (k : Nat), (gr n ok hs k).length ≤ hs.length
  | [], _ => Nat.le_refl _
  | h :: hs, k => by
    unfold gr
    cases fst n ok k h with
    | none => exact Nat.zero_le _
    | some a => exact Nat.succ_le_succ (gr_len hs (a + 1))
theorem gr_take : ∀ (hs : List β) (k j : Nat), gr n ok (hs.take j) k = (gr n ok hs k).take j
  | [], k, j => by simp [gr]
  | h :: hs, k, 0 => by simp [gr]
  | h :: hs, k, j + 1 => by
    rw [List.take_succ_cons]
    unfold gr
    cases fst n ok k h with
    | none => simp
    | some a =>
      show a :: gr n ok (hs.take j) (a + 1) = (a :: gr n ok hs (a + 1)).take (j + 1)
      rw [gr_take hs (a + 1) j, List.take_succ_cons]
theorem gr_lay : ∀ (hs : List β) (k : Nat), LayF n ok k (hs.take (gr n ok hs k).length) (gr n ok hs k)
  | [], k => by simp [gr, LayF]
  | h :: hs, k => by
    unfold gr
    cases e : fst n ok k h with
    | none => simp [LayF]
    | some a =>
      show LayF n ok k ((h :: hs).take ((gr n ok hs (a + 1)).length + 1)) (a :: gr n ok hs (a + 1))
      rw [List.take_succ_cons]
      have := fst_some.mp e
      exact ⟨this.1.1, this.2.1, this.1.2, gr_lay hs (a + 1)⟩
theorem gr_min : ∀ (hs : List β) (k k' : Nat) (l : List Nat), LayF n ok k hs l → k' ≤ k → (gr n ok hs k').length = hs.length ∧ ∀ (i : Nat) a b, l[i]? = some a → (gr n ok hs k')[i]? = some b → b ≤ a
  | [], k, k', l, h, _ => ⟨rfl, fun i a b _ e => by simp [gr] at e⟩
  | h :: hs, k, k', [], hl, _ => by cases hl
  | h :: hs, k, k', a :: l, ⟨h1, h2, h3, h4⟩, hk => by
    obtain ⟨b, e, hb⟩ := fst_le (k' := k') hk h1 h2 h3
    obtain ⟨i1, i2⟩ := gr_min hs (a + 1) (b + 1) l h4 (by omega)
    unfold gr
    rw [e]
    refine ⟨by show _ + 1 = _ + 1; rw [i1], fun i x y hx hy => ?_⟩
    cases i with
    | zero =>
      cases (Option.some.inj hx : a = x)
      cases (Option.some.inj hy : b = y)
      exact hb
    | succ i => exact i2 i x y (by simpa using hx) (by simpa using hy)
/-- all can be laid just if the greedy one is whole -/
theorem gr_whole {hs : List β} : (gr n ok hs 0).length = hs.length ↔ lays n ok hs ≠ [] := by
  constructor
  · intro e
    have := gr_lay (n := n) (ok := ok) hs 0
    rw [e, List.take_of_length_le (Nat.le_refl _)] at this
    exact List.ne_nil_of_mem (mem_lay.mpr (lay0.mpr this))
  · intro h
    obtain ⟨l, hl⟩ := List.exists_mem_of_ne_nil _ h
    exact (gr_min hs 0 0 l (lay0.mp (mem_lay.mp hl)) (Nat.le_refl _)).1
theorem gr_part (hs : List β) (m : Nat) (hm : m ≤ hs.length) : lays n ok (hs.take m) ≠ [] ↔ m ≤ (gr n ok hs 0).length := by
  rw [← gr_whole, gr_take, List.length_take, List.length_take, Nat.min_eq_left hm]
  omega
theorem gr_isLay {hs : List β} (h : lays n ok hs ≠ []) : IsLay n ok hs (gr n ok hs 0) := by
  have := gr_lay (n := n) (ok := ok) hs 0
  rw [gr_whole.mpr h, List.take_of_length_le (Nat.le_refl _)] at this
  exact lay0.mpr this
theorem gr_least {hs : List β} {l : List Nat} (hl : IsLay n ok hs l) {i a b : Nat} (ha : l[i]? = some a) (hb : (gr n ok hs 0)[i]? = some b) : b ≤ a :=
  (gr_min hs 0 0 l (lay0.mp hl) (Nat.le_refl _)).2 i a b ha hb
/-! ### from behind -/
def rv (n : Nat) (l : List Nat) : List Nat := l.reverse.map fun a => n - 1 - a
theorem rv_len (l : List Nat) : (rv n l).length = l.length := by unfold rv; rw [List.length_map, List.length_reverse]
theorem rv_get {l : List Nat} {i : Nat} (h : i < l.length) : (rv n l)[i]? = (l[l.length - 1 - i]?).map fun a => n - 1 - a := by
  unfold rv; rw [List.getElem?_map, List.getElem?_reverse h]
theorem IsLay.rv {hs : List β} {l : List Nat} (h : IsLay n ok hs l) : IsLay n (fun g a => ok g (n - 1 - a)) hs.reverse (rv n l) := by
  have below : ∀ a ∈ l, a < n := fun a ha => by
    obtain ⟨i, hi⟩ := List.mem_iff_getElem?.mp ha
    have hlt := (List.getElem?_eq_some_iff.mp hi).1
    exact (h.fit i a _ hi (List.getElem?_eq_getElem (by rw [← h.len]; exact hlt))).1
  refine ⟨by rw [rv_len, List.length_reverse, h.len], ?_, fun i a g ha hg => ?_⟩
  · unfold Ks.rv
    rw [List.pairwise_map, List.pairwise_reverse]
    exact h.asc.imp_of_mem fun {a b} ha hb hab => by
      have := below b hb
      omega
  · have hi : i < l.length := by
      have := (List.getElem?_eq_some_iff.mp ha).1
      rwa [rv_len] at this
    rw [rv_get hi] at ha
    rw [List.getElem?_reverse (by rw [← h.len]; exact hi), ← h.len] at hg
    obtain ⟨b, hb, e⟩ := Option.map_eq_some_iff.mp ha
    have := h.fit _ b g hb hg
    subst e
    refine ⟨by omega, ?_⟩
    show ok g (n - 1 - (n - 1 - b)) = true
    rw [show n - 1 - (n - 1 - b) = b by omega]
    exact this.2
theorem rv_rv {l : List Nat} (h : ∀ a ∈ l, a < n) : rv n (rv n l) = l := by
  unfold rv
  rw [← List.map_reverse, List.reverse_reverse, List.map_map]
  conv => rhs; rw [← List.map_id l]
  refine List.map_congr_left fun a ha => ?_
  have := h a ha
  show n - 1 - (n - 1 - a) = a
  omega
/-- the one from behind -/
def bk (n : Nat) (ok : β → Nat → Bool) (hs : List β) : List Nat := rv n (gr n (fun g a => ok g (n - 1 - a)) hs.reverse 0)
theorem IsLay.below {hs : List β} {l : List Nat} (h : IsLay n ok hs l) : ∀ a ∈ l, a < n := fun a ha => by
  obtain ⟨i, hi⟩ := List.mem_iff_getElem?.mp ha
  have hlt := (List.getElem?_eq_some_iff.mp hi).1
  exact (h.fit i a _ hi (List.getElem?_eq_getElem (by rw [← h.len]; exact hlt))).1
theorem IsLay.ok_congr {ok' : β → Nat → Bool} {hs : List β} {l : List Nat} (h : IsLay n ok hs l) (e : ∀ g a, a < n → ok g a = ok' g a) : IsLay n ok' hs l :=
  ⟨h.len, h.asc, fun i a g ha hg => let k := h.fit i a g ha hg; ⟨k.1, by rw [← e g a k.1]; exact k.2⟩⟩
theorem bk_isLay {hs : List β} (h : lays n ok hs ≠ []) : IsLay n ok hs (bk n ok hs) := by
  obtain ⟨l, hl⟩ := List.exists_mem_of_ne_nil _ h
  have h1 := (mem_lay.mp hl).rv
  have h2 := gr_isLay (List.ne_nil_of_mem (mem_lay.mpr h1))
  have h3 := h2.rv
  rw [List.reverse_reverse] at h3
  exact h3.ok_congr fun g a ha => by show ok g (n - 1 - (n - 1 - a)) = ok g a; rw [show n - 1 - (n - 1 - a) = a by omega]
theorem bk_great {hs : List β} {l : List Nat} (hl : IsLay n ok hs l) {i a b : Nat} (ha : l[i]? = some a) (hb : (bk n ok hs)[i]? = some b) : a ≤ b := by
  have h1 := hl.rv
  have hi : i < l.length := (List.getElem?_eq_some_iff.mp ha).1
  have hg : (gr n (fun g a => ok g (n - 1 - a)) hs.reverse 0).length = l.length := by
    rw [gr_whole.mpr (List.ne_nil_of_mem (mem_lay.mpr h1)), List.length_reverse, hl.len]
  unfold bk at hb
  rw [rv_get (by omega)] at hb
  obtain ⟨c, hc, e⟩ := Option.map_eq_some_iff.mp hb
  have hr : (rv n l)[l.length - 1 - i]? = some (n - 1 - a) := by
    rw [rv_get (by omega), show l.length - 1 - (l.length - 1 - i) = i by omega, ha]; rfl
  rw [hg] at hc
  have := gr_least h1 hr hc
  have := hl.below a (List.mem_of_getElem? ha)
  omega
/-- all between first and last that fit are some laying's -/
theorem between {hs : List β} (h : lays n ok hs ≠ []) {i x b c : Nat} {g : β} (hg : hs[i]? = some g) (hb : (gr n ok hs 0)[i]? = some b) (hc : (bk n ok hs)[i]? = some c) (h1 : b ≤ x) (h2 : x ≤ c) (hx : ok g x = true) : ∃ l ∈ lays n ok hs, l[i]? = some x := by
  have F := gr_isLay h
  have B := bk_isLay h
  have lf := F.len
  have lb := B.len
  have hi : i < hs.length := (List.getElem?_eq_some_iff.mp hg).1
  generalize gr n ok hs 0 = f at *
  generalize bk n ok hs = k at *
  have hn : x < n := by have := B.below c (List.mem_of_getElem? hc); omega
  have lt : (f.take i).length = i := by rw [List.length_take]; omega
  have gi : (f.take i ++ x :: k.drop (i + 1))[i]? = some x := by
    rw [List.getElem?_append_right (by omega), lt, Nat.sub_self]; rfl
  refine ⟨f.take i ++ x :: k.drop (i + 1), mem_lay.mpr ⟨?_, ?_, fun j a y ha hy => ?_⟩, gi⟩
  · rw [List.length_append, lt, List.length_cons, List.length_drop]; omega
  · rw [List.pairwise_append, List.pairwise_cons]
    have fb : ∀ a ∈ f.take i, a < x := fun a ha => by
      obtain ⟨j, hj⟩ := List.mem_iff_getElem?.mp ha
      have hji : j < i := by have := (List.getElem?_eq_some_iff.mp hj).1; omega
      rw [List.getElem?_take_of_lt hji] at hj
      obtain ⟨l1, e1⟩ := List.getElem?_eq_some_iff.mp hj
      obtain ⟨l2, e2⟩ := List.getElem?_eq_some_iff.mp hb
      have := List.pairwise_iff_getElem.mp F.asc j i l1 l2 hji
      omega
    have kb : ∀ a ∈ k.drop (i + 1), x < a := fun a ha => by
      obtain ⟨j, hj⟩ := List.mem_iff_getElem?.mp ha
      rw [List.getElem?_drop] at hj
      obtain ⟨l1, e1⟩ := List.getElem?_eq_some_iff.mp hj
      obtain ⟨l2, e2⟩ := List.getElem?_eq_some_iff.mp hc
      have := List.pairwise_iff_getElem.mp B.asc i (i + 1 + j) l2 l1 (by omega)
      omega
    refine ⟨F.asc.sublist (List.take_sublist _ _), ⟨kb, B.asc.sublist (List.drop_sublist _ _)⟩, fun a ha y hy => ?_⟩
    have := fb a ha
    rcases List.mem_cons.mp hy with rfl | hy
    · exact this
    · have := kb y hy; omega
  · rcases Nat.lt_trichotomy j i with c1 | rfl | c1
    · rw [List.getElem?_append_left (by omega), List.getElem?_take_of_lt c1] at ha
      exact F.fit j a y ha hy
    · rw [gi] at ha
      rw [hg] at hy
      cases ha; cases hy
      exact ⟨hn, hx⟩
    · rw [List.getElem?_append_right (by omega), lt, show j - i = (j - i - 1) + 1 by omega, List.getElem?_cons_succ, List.getElem?_drop, show i + 1 + (j - i - 1) = j by omega] at ha
      exact B.fit j a y ha hy
/-- the numbers that one of the things has in layings -/
theorem spots {hs : List β} (h : lays n ok hs ≠ []) {i b c : Nat} {g : β} (hg : hs[i]? = some g) (hb : (gr n ok hs 0)[i]? = some b) (hc : (bk n ok hs)[i]? = some c) (x : Nat) : (∃ l ∈ lays n ok hs, l[i]? = some x) ↔ (b ≤ x ∧ x ≤ c) ∧ ok g x = true := by
  constructor
  · rintro ⟨l, hl, e⟩
    have il := mem_lay.mp hl
    exact ⟨⟨gr_least il e hb, bk_great il e hc⟩, (il.fit i x g e hg).2⟩
  · rintro ⟨⟨h1, h2⟩, hx⟩
    exact between h hg hb hc h1 h2 hx
end
end Ks

namespace K6
open PySem PySem.Spec PyProof.Rows L2 Hb St Sq Ow En Zp RZ Rd
def top (i : Nat) : Stmt := PySem.Challenge.pw_curvebells_k87_whole_events_silent_and_h.main.body.getD i (.Pass ⟨0, 0, 0, 0⟩)
/-! ### any values, by their data -/
def tyD : PyData → Value
  | .none => .type "NoneType"
  | .bool _ => .type "bool"
  | .int _ => .type "int"
  | .str _ => .type "str"
  | .list _ => .type "list"
  | .tuple _ => .type "tuple"
  | _ => .type "dict"
theorem ty_lst {K : PySem.W.Frag} {H : Hp} {a : Addr} {xs : List V} (h : SqL K H a xs) : TyX K H (.ref a) (.type "list") := by
  rcases h with (e | ⟨o, e⟩) | ⟨o, its, n, e, c, _⟩
  · exact .base (.lst e)
  · exact .base (.frz e)
  · exact .kList e c
theorem ty_tup {K : PySem.W.Frag} {H : Hp} {a : Addr} {xs : List V} (h : SqT K H a xs) : TyX K H (.ref a) (.type "tuple") := by
  rcases h with (e | ⟨o, e⟩) | ⟨o, its, n, e, c, _⟩
  · exact .base (.tup e)
  · exact .fTuple e
  · exact .kTuple e c
theorem ty_dp {K : PySem.W.Frag} {H : Hp} {v : V} {d : PyData} (h : Dp K H v d) : TyX K H v (tyD d) := by
  cases h with
  | non => exact .base .non
  | bl b => exact .base (.bl b)
  | int i => exact .base (.int i)
  | str x => exact .base (.str x)
  | lst h _ => exact ty_lst h
  | tup h _ => exact ty_tup h
def isStrD : PyData → Bool
  | .str _ => true
  | _ => false
def isTupD : PyData → Bool
  | .tuple _ => true
  | _ => false
theorem kit_str {K : PySem.W.Frag} {H : Hp} {v : V} {d : PyData} (h : Dp K H v d) : PySem.W.kitOne K (tyD d) (.type "str") = some (isStrD d) := by
  cases h with
  | non => exact kit_ty (a := "NoneType") (b := "str") (r := false) (by decide +kernel)
  | bl b => exact kit_ty (a := "bool") (b := "str") (r := false) (by decide +kernel)
  | int i => exact kit_ty (a := "int") (b := "str") (r := false) (by decide +kernel)
  | str x => exact kit_ty (a := "str") (b := "str") (r := true) (by decide +kernel)
  | lst _ _ => exact kit_ty (a := "list") (b := "str") (r := false) (by decide +kernel)
  | tup _ _ => exact kit_ty (a := "tuple") (b := "str") (r := false) (by decide +kernel)
theorem kit_tup {K : PySem.W.Frag} {H : Hp} {v : V} {d : PyData} (h : Dp K H v d) : PySem.W.kitOne K (tyD d) (.type "tuple") = some (isTupD d) := by
  cases h with
  | non => exact kit_ty (a := "NoneType") (b := "tuple") (r := false) (by decide +kernel)
  | bl b => exact kit_ty (a := "bool") (b := "tuple") (r := false) (by decide +kernel)
  | int i => exact kit_ty (a := "int") (b := "tuple") (r := false) (by decide +kernel)
  | str x => exact kit_ty (a := "str") (b := "tuple") (r := false) (by decide +kernel)
  | lst _ _ => exact kit_ty (a := "list") (b := "tuple") (r := false) (by decide +kernel)
  | tup _ _ => exact kit_ty (a := "tuple") (b := "tuple") (r := true) (by decide +kernel)
theorem dpa_all {K : PySem.W.Frag} {H : Hp} : ∀ {xs : List V} {ds : List PyData}, DpAll K H xs ds → All2 (Dp K H) xs ds
  | _, _, .nil => .nil
  | _, _, .cons h t => .cons h (dpa_all t)
mutual
theorem dp_same {K : PySem.W.Frag} {H H' : Hp} (s : Same H H') : ∀ {d : PyData} {v : V}, Dp K H v d → Dp K H' v d
  | _, _, .non => .non
  | _, _, .bl b => .bl b
  | _, _, .int i => .int i
  | _, _, .str x => .str x
  | _, _, .lst h a => .lst (lstSame s h) (dpa_same s a)
  | _, _, .tup h a => .tup (tupFix (Fix.of s) h) (dpa_same s a)
theorem dpa_same {K : PySem.W.Frag} {H H' : Hp} (s : Same H H') : ∀ {ds : List PyData} {xs : List V}, DpAll K H xs ds → DpAll K H' xs ds
  | _, _, .nil => .nil
  | _, _, .cons h t => .cons (dp_same s h) (dpa_same s t)
end
/-- whether a text is a name -/
def nmB (x : Str) : Bool := decide (x.length ≤ 8) && (Txt.isascii x && (Txt.isalpha x && Txt.islower x))
def nmD : PyData → Bool
  | .str x => nmB x
  | _ => false
/-- texts that are short -/
def ShortD : PyData → Prop
  | .str x => x.length ≤ 1000
  | _ => True
theorem inV_strs (x : Str) (ns : List Str) : inV (.str x) (ns.map V.str) = decide (x ∈ ns) := by
  unfold inV
  rw [List.any_map]
  induction ns with
  | nil => simp
  | cons y r ih =>
    rw [List.any_cons, ih]
    show (eqV (.str y) (.str x) || decide (x ∈ r)) = _
    have e : eqV (.str y) (.str x) = decide (x = y) := by
      show decide (_ = _) = _
      exact decide_eq_decide.mpr ⟨fun h => h.symm, fun h => h.symm⟩
    rw [e]
    simp [List.mem_cons]
theorem flat_strs (ns : List Str) : (ns.map V.str).all flatV = true := by rw [List.all_map]; exact List.all_eq_true.mpr fun _ _ => rfl
theorem in_strs {K : PySem.W.Frag} {H : Hp} {a : Addr} {ns : List Str} {x : Str} {Q : VK} (h : SqX K H a (ns.map V.str)) (q : Q (.bl (decide (x ∈ ns))) H) : rIn K false (.str x) (.ref a) H Q :=
  ⟨a, _, rfl, h, rfl, flat_strs ns, by rw [inV_strs]; exact q⟩
section
variable {P : Program} {w : World} {K : PySem.W.Frag} {mg : Str → Option Value} {base : Heap}
/-! ### is_name -/
abbrev s_is_name : Stmt := top 8
theorem sc_is_name : FnScope ["value"] ["value"] (defScope s_is_name) := ⟨rfl, rfl, rfl, by decide +kernel, rfl, by decide +kernel, by decide +kernel⟩
def spIsName (K : PySem.W.Frag) : Sp := fun vs H Q _ => ∃ (v : V) (d : PyData), vs = [v] ∧ Dp K H v d ∧ ShortD d ∧ Q (.bl (nmD d)) H
theorem ok_is_name {f : Addr} {fd : FuncData} (F : Fun K "is_name" "is_name" s_is_name f fd) {tk : Tok} (g_LETTERS : mg "LETTERS" = some (.int 8 tk)) (n_isinstance : mg "isinstance" = none) (n_len : mg "len" = none) (n_str : mg "str" = none) : FnOk P w K mg base CX0 1 f fd ["value"] (spIsName K) := by
  refine F.ok sc_is_name (fun vs H Q E h => ?_) (fun cdv A outer s H vs Q E hr h => ?_)
  · obtain ⟨_, _, rfl, _⟩ := h
    rfl
  · obtain ⟨v, d, rfl, hv, sh, q⟩ := h
    refine ⟨_, (Evl.pss_cut (ps_if (PW.pt (pw_or (pt_not (pt_val (pe_callB call_isi (by rfl) n_isinstance (by decide +kernel) (pa_cons (pv 0) (pa_cons (pe_bltn (v := .ty "str") (by rfl) n_str (by decide +kernel) rfl) pa_nil))))) (pw_or1 (pt_cmpR op_gt (pe_callB call_len_str (by rfl) n_len PySem.boot_len (pa_cons (pv 0) pa_nil)) (pe_glob (v := .int 8) rfl g_LETTERS ⟨_, rfl⟩) (nomark _))))) (pss_one (ps_ret pe_bl)) pss_nil)
    (pss_one (ps_ret (pe_and (pe_bm0 PySem.F.plainAttrs_str PySem.F.slot_str_isascii PySem.F.type_str_isascii mt_isascii (pv 0)) (pe_and (pe_bm0 PySem.F.plainAttrs_str PySem.F.slot_str_isalpha PySem.F.type_str_isalpha mt_isalpha (pv 0)) (pe_one (pe_bm0 PySem.F.plainAttrs_str PySem.F.slot_str_islower PySem.F.type_str_islower mt_islower (pv 0)))))))), ?_⟩
    have ty := ty_dp hv
    have kt := kit_str hv
    cases hv with
    | str x =>
      have sh : x.length ≤ 1000 := sh
      have q : Q (.bl (nmB x)) H := q
      refine ⟨fun σ H' => σ = [some (.str x)] ∧ H' = H ∧ x.length ≤ 8, ?_, ?_⟩
      · refine ⟨_, rfl, .str x, .ty "str", _, _, _, rfl, .ty "str", ty, kt, true, rfl, iteF ?_⟩
        refine ⟨_, rfl, _, rfl, by rw [sizeLine_eq]; omega, _, _, rfl, rfl, _, rfl, ?_⟩
        by_cases c : x.length ≤ 8
        · rw [decide_eq_false (by omega)]
          exact iteF ⟨rfl, rfl, c⟩
        · rw [decide_eq_true (by omega)]
          refine iteT ?_
          have : nmB x = false := by unfold nmB; rw [decide_eq_false c]; rfl
          rw [this] at q
          exact q
      rintro σ H' ⟨rfl, rfl, c⟩
      unfold nmB at q
      rw [decide_eq_true c, Bool.true_and] at q
      refine ⟨_, rfl, rfl, _, rfl, rfl, trivial, _, rfl, ?_⟩
      cases c1 : Txt.isascii x with
      | false => rw [c1] at q; exact iteF q
      | true =>
        rw [c1, Bool.true_and] at q
        refine iteT ⟨_, rfl, rfl, _, rfl, rfl, trivial, _, rfl, ?_⟩
        cases c2 : Txt.isalpha x with
        | false => rw [c2] at q; exact iteF q
        | true =>
          rw [c2, Bool.true_and] at q
          exact iteT ⟨_, rfl, rfl, _, rfl, rfl, trivial, q⟩
    | _ =>
      exact ⟨fun _ _ => False, ⟨_, rfl, _, .ty "str", _, _, _, rfl, .ty "str", ty, kt, _, rfl, iteT q⟩, fun _ _ h => h.elim⟩
/-! ### thin_lot -/
abbrev s_thin_lot : Stmt := top 10
theorem sc_thin_lot : FnScope ["lot", "names", "name"] ["lot", "names"] (defScope s_thin_lot) := ⟨rfl, rfl, rfl, by decide +kernel, rfl, by decide +kernel, by decide +kernel⟩
def spThin (K : PySem.W.Frag) : Sp := fun vs H Q _ => ∃ (a b : Addr) (xs ys : List Str), vs = [.ref a, .ref b] ∧ SqT K H a (xs.map V.str) ∧ SqT K H b (ys.map V.str) ∧ xs.length ≤ 1000 ∧ ∀ p H', Same H H' → H' p = some (.tup ((xs.filter fun x => decide (x ∈ ys)).map V.str)) → Q (.ref p) H'
theorem ok_thin_lot {f : Addr} {fd : FuncData} (F : Fun K "thin_lot" "thin_lot" s_thin_lot f fd) (n_tuple : mg "tuple" = none) : FnOk P w K mg base CX0 1 f fd ["lot", "names"] (spThin K) := by
  refine F.ok sc_thin_lot (fun vs H Q E h => ?_) (fun cdv A outer s H vs Q E hr h => ?_)
  · obtain ⟨_, _, _, _, rfl, _⟩ := h
    rfl
  · obtain ⟨a, b, xs, ys, rfl, ha, hb, l, q⟩ := h
    refine ⟨_, (pss_one (ps_ret (pe_callTy call_tuple_of (by rfl) n_tuple (by decide +kernel) (pa_cons (pe_lc (own := [("name", 2)]) (g := gName 2) rfl sc_thin_lot.nd (pi_seq (pv 0)) (blkOk_by (N := ["lot", "names", "name"]) (sc := defScope s_thin_lot) (by decide +kernel)) (fun _ _ _ _ _ => pg_name (i := 2) sc_thin_lot.nd rfl (Or.inl rfl)) (fun _ _ _ _ _ => pts_one (pt_cmpR (r := rIn K false) op_in_seq (pv 2) (pv 1) rfl)) (fun _ _ _ _ _ => pv 2)) pa_nil)))), ?_⟩
    refine ⟨_, rfl, a, _, rfl, .inr ha, fun J S W s0 D hD => ?_⟩
    refine lc_mf (ds := xs) W (fun x => decide (x ∈ ys)) (fun _ y d => y = .str d) s0 hD (by simp) (fun i x d H' ex ed s m => ?_) (fun H' zs s e al => ?_)
    · rw [at_map ex ed]
      refine ⟨rfl, _, rfl, _, rfl, in_strs (.inr (tupFix (Fix.of s) hb)) ⟨_, rfl, ?_⟩⟩
      cases c : decide (d ∈ ys) with
      | true => exact iteT ⟨_, rfl, mf_yes m hD (fun _ _ _ _ _ h => h) ed (by omega) (Same.refl _) c rfl⟩
      | false => exact iteF (mf_no m (fun _ _ _ _ _ h => h) ed (Same.refl _) c)
    · have ez := al.map_eq (f := V.str) fun _ _ h => h
      rw [ez] at e
      exact ⟨D, _, rfl, .inl ⟨SqL.of e, fun l hl => q l _ (s.trans (same_new hl _)) upd_same⟩⟩
/-! ### is_part -/
/-- whether all of a lot is in another one -/
def prt (xs ys : List Str) : Bool := xs.all fun x => decide (x ∈ ys)
theorem prt_len (xs ys : List Str) : (decide (V.int ((xs.filter fun x => decide (x ∈ ys)).length : Nat) = V.int (xs.length : Nat))) = prt xs ys := by
  unfold prt
  rw [Bool.eq_iff_iff, decide_eq_true_iff, List.all_eq_true]
  constructor
  · intro e
    rw [← List.length_filter_eq_length_iff]
    injection e with e
    exact Int.ofNat_inj.mp e
  · intro e
    rw [List.length_filter_eq_length_iff.mpr e]
abbrev s_is_part : Stmt := top 17
theorem sc_is_part : FnScope ["lot", "other"] ["lot", "other"] (defScope s_is_part) := ⟨rfl, rfl, rfl, by decide +kernel, rfl, by decide +kernel, by decide +kernel⟩
def spPart (K : PySem.W.Frag) : Sp := fun vs H Q _ => ∃ (a b : Addr) (xs ys : List Str), vs = [.ref a, .ref b] ∧ SqT K H a (xs.map V.str) ∧ SqT K H b (ys.map V.str) ∧ xs.length ≤ 1000 ∧ ∀ H', Same H H' → Q (.bl (prt xs ys)) H'
theorem ok_is_part {f : Addr} {fd : FuncData} (F : Fun K "is_part" "is_part" s_is_part f fd) (C_thin_lot : Cl P w K mg base "thin_lot" ["lot", "names"] [] 1 (spThin K)) (n_len : mg "len" = none) : FnOk P w K mg base CX0 2 f fd ["lot", "other"] (spPart K) := by
  refine F.ok sc_is_part (fun vs H Q E h => ?_) (fun cdv A outer s H vs Q E hr h => ?_)
  · obtain ⟨_, _, _, _, rfl, _⟩ := h
    rfl
  · obtain ⟨a, b, xs, ys, rfl, ha, hb, l, q⟩ := h
    refine ⟨_, (pss_one (ps_ret (pe_cmpR op_eq (pe_callB call_len_seq (by rfl) n_len PySem.boot_len (pa_cons (pe_use C_thin_lot (hr.mono (by decide)) rfl (pa_cons (pv 0) (pa_cons (pv 1) pa_nil))) pa_nil)) (pe_callB call_len_seq (by rfl) n_len PySem.boot_len (pa_cons (pv 0) pa_nil)) (nomark _)))), ?_⟩
    refine ⟨_, rfl, _, rfl, a, b, xs, ys, rfl, ha, hb, l, fun p H' s e => ?_⟩
    refine ⟨p, _, rfl, .inr (SqT.of e), _, rfl, a, _, rfl, .inr (tupFix (Fix.of s) ha), ?_⟩
    refine ⟨rfl, ?_⟩
    rw [List.length_map, List.length_map, prt_len]
    exact q H' s
end
end K6

namespace K6
open PySem PySem.Spec PyProof.Rows L2 Hb St Sq Ow En Zp RZ Rd
/-! ### lots and tales, of any data -/
def ascD : List PyData → Bool
  | .str x :: .str y :: r => decide (x.cps.toList < y.cps.toList) && ascD (.str y :: r)
  | _ => true
def lotD : PyData → Bool
  | .tuple ds => !ds.isEmpty && (ds.all nmD && ascD ds)
  | _ => false
def taleD : PyData → Bool
  | .tuple ds => ds.all lotD
  | _ => false
def ltD : PyData × PyData → Bool
  | (.str x, .str y) => decide (x.cps.toList < y.cps.toList)
  | _ => true
theorem nm_str {d : PyData} (h : nmD d = true) : ∃ x, d = .str x ∧ nmB x = true := by
  cases d with
  | str x => exact ⟨x, rfl, h⟩
  | _ => cases h
theorem asc_zip : ∀ (d : PyData) (ds : List PyData), (d :: ds).all nmD = true → (((d :: ds).zip ds).all ltD) = ascD (d :: ds)
  | d, [], h => by
    obtain ⟨x, rfl, _⟩ := nm_str (List.all_eq_true.mp h d List.mem_cons_self)
    rfl
  | d, e :: ds, h => by
    obtain ⟨x, rfl, _⟩ := nm_str (List.all_eq_true.mp h d List.mem_cons_self)
    have h' : (e :: ds).all nmD = true := by
      rw [List.all_cons, Bool.and_eq_true] at h
      exact h.2
    obtain ⟨y, rfl, _⟩ := nm_str (List.all_eq_true.mp h' e List.mem_cons_self)
    have ih := asc_zip (.str y) ds h'
    rw [List.zip_cons_cons, List.all_cons, ih]
    rfl
theorem bl_map {α : Type} {ys : List V} {ds : List α} {f : α → Bool} (h : All2 (fun (y : V) (d : α) => y = .bl (f d)) ys ds) : ys = (ds.map f).map V.bl := by
  rw [List.map_map]
  exact h.map_eq fun a b e => e
theorem at2 {α β : Type} {R : α → β → Prop} {as : List α} {bs : List β} (h : All2 R as bs) {i : Nat} {a : α} {b : β} (ha : as[i]? = some a) (hb : bs[i]? = some b) : R a b := by
  obtain ⟨b', hb', r⟩ := h.get ha
  rw [hb] at hb'
  rw [Option.some.inj hb']
  exact r
theorem all_map {α : Type} (f : α → Bool) (l : List α) : (l.map f).all id = l.all f := by
  rw [List.all_map]; rfl
section
variable {P : Program} {w : World} {K : PySem.W.Frag} {mg : Str → Option Value} {base : Heap}
/-! ### is_lot -/
abbrev s_is_lot : Stmt := top 14
theorem sc_is_lot : FnScope ["value", "one", "other", "name"] ["value"] (defScope s_is_lot) := ⟨rfl, rfl, rfl, by decide +kernel, rfl, by decide +kernel, by decide +kernel⟩
/-- data with short rows and texts -/
def Sm1 : PyData → Prop
  | .tuple ds => ds.length ≤ 1000 ∧ ∀ d ∈ ds, ShortD d
  | _ => True
def spIsLot (K : PySem.W.Frag) : Sp := fun vs H Q _ => ∃ (v : V) (d : PyData), vs = [v] ∧ Dp K H v d ∧ Sm1 d ∧ ∀ H', Same H H' → Q (.bl (lotD d)) H'
theorem ok_is_lot {f : Addr} {fd : FuncData} (F : Fun K "is_lot" "is_lot" s_is_lot f fd) (C_is_name : Cl P w K mg base "is_name" ["value"] [] 1 (spIsName K)) (n_all : mg "all" = none) (n_isinstance : mg "isinstance" = none) (n_len : mg "len" = none) (n_tuple : mg "tuple" = none) (n_zip : mg "zip" = none) : FnOk P w K mg base CX0 2 f fd ["value"] (spIsLot K) := by
  refine F.ok sc_is_lot (fun vs H Q E h => ?_) (fun cdv A outer s H vs Q E hr h => ?_)
  · obtain ⟨_, _, rfl, _⟩ := h
    rfl
  · obtain ⟨v, d, rfl, hv, sm, q⟩ := h
    refine ⟨_, (Evl.pss_cut (ps_if (PW.pt (pw_or (pt_not (pt_val (pe_callB call_isi (by rfl) n_isinstance (by decide +kernel) (pa_cons (pv 0) (pa_cons (pe_bltn (v := .ty "tuple") (by rfl) n_tuple (by decide +kernel) rfl) pa_nil))))) (pw_or (pt_cmpR op_eq (pe_callB call_len_seq (by rfl) n_len PySem.boot_len (pa_cons (pv 0) pa_nil)) pe_int (nomark _)) (pw_or1 (pt_not (pt_val (pe_callB (cr_all rfl) (by rfl) n_all (by decide +kernel) (pa_cons (pe_lc (own := [("name", 3)]) (g := gName 3) rfl sc_is_lot.nd (pi_seq (pv 0)) (blkOk_by (N := ["value", "one", "other", "name"]) (sc := defScope s_is_lot) (by decide +kernel)) (fun _ _ _ _ _ => pg_name (i := 3) sc_is_lot.nd rfl (Or.inl rfl)) (fun _ _ _ _ _ => pts_nil) (fun _ _ _ _ _ => pe_use C_is_name (hr.mono (by decide)) rfl (pa_cons (pv 3) pa_nil))) pa_nil)))))))) (pss_one (ps_ret pe_bl)) pss_nil)
    (pss_one (ps_ret (pe_callB (cr_all rfl) (by rfl) n_all (by decide +kernel) (pa_cons (pe_lc (own := [("one", 1), ("other", 2)]) (g := gTup K 2 (gCons (gName 1) (gCons (gName 2) gNil))) rfl sc_is_lot.nd (pi_zipA (by rfl) n_zip (pa_cons (pv 0) (pa_cons (pe_slice (r := rSlA K) sl_tupA (pv 0) (po_some pe_int) po_none) pa_nil))) (blkOk_by (N := ["value", "one", "other", "name"]) (sc := defScope s_is_lot) (by decide +kernel)) (fun _ _ _ _ _ => pg_tup rfl (pgs_cons (pg_name (i := 1) sc_is_lot.nd rfl (Or.inl rfl)) (pgs_cons (pg_name (i := 2) sc_is_lot.nd rfl (Or.inl rfl)) pgs_nil))) (fun _ _ _ _ _ => pts_nil) (fun _ _ _ _ _ => pe_cmpR op_lt_str (pv 1) (pv 2) (nomark _))) pa_nil))))), ?_⟩
    have ty := ty_dp hv
    have kt := kit_tup hv
    cases hv with
    | @tup a xs ds ht ha =>
      have al := dpa_all ha
      have sm : ds.length ≤ 1000 ∧ ∀ d ∈ ds, ShortD d := sm
      have hl := al.len
      have q : ∀ H', Same H H' → Q (.bl (!ds.isEmpty && (ds.all nmD && ascD ds))) H' := q
      refine ⟨fun σ H' => σ = [some (.ref a), none, none, none] ∧ Same H H' ∧ ds ≠ [] ∧ ds.all nmD = true, ?_, ?_⟩
      · refine ⟨_, rfl, _, .ty "tuple", _, _, _, rfl, .ty "tuple", ty, kt, true, rfl, iteF ?_⟩
        refine ⟨_, rfl, a, _, rfl, .inr ht, rfl, _, rfl, ?_⟩
        by_cases c : ds = []
        · subst c
          have ex : xs = [] := List.eq_nil_of_length_eq_zero (by rw [hl]; rfl)
          subst ex
          exact iteT (q _ (Same.refl _))
        · have nl : xs.length ≠ 0 := fun e => c (List.eq_nil_of_length_eq_zero (by rw [← hl]; exact e))
          rw [decide_eq_false (fun e => nl (by injection e with e; omega))]
          refine iteF ⟨_, rfl, a, _, rfl, .inr ht, fun J S W s0 D hD => ?_⟩
          refine lc_mf (ds := ds) W (fun _ => true) (fun _ y d => y = .bl (nmD d)) s0 hD hl (fun i x d H' ex ed s m => ?_) (fun H' ys s e al2 => ?_)
          · refine ⟨rfl, _, rfl, x, d, rfl, dp_same s (at2 al ex ed), sm.2 d (at_mem ed), ?_⟩
            exact mf_yes m hD (fun _ _ _ _ _ h => h) ed (by omega) (Same.refl _) rfl rfl
          · rw [Rd.filter_all] at al2
            have ey := bl_map al2
            refine ⟨D, _, rfl, SqL.of (by rw [← ey]; exact e), _, rfl, ?_⟩
            rw [all_map]
            cases c2 : ds.all nmD with
            | true => exact iteF ⟨rfl, s, c, rfl⟩
            | false =>
              have q := q H' s
              rw [c2, Bool.false_and, Bool.and_false] at q
              exact iteT q
      rintro σ H1 ⟨rfl, s1, ne, nm⟩
      cases al with
      | nil => exact absurd rfl ne
      | @cons x0 d0 xr dr r0 rr =>
      have h1 := tupFix (Fix.of s1) ht
      refine ⟨_, rfl, ?_⟩
      refine rd_slc rfl h1 fun p H2 hp s2 e2 => ?_
      have h2 := tupFix (Fix.of s2) h1
      refine ⟨a, p, _, _, rfl, .inr ⟨h2, SqT.of e2, fun D hD => ?_⟩⟩
      have aw : All2 (Dp K H) (x0 :: xr) (d0 :: dr) := .cons r0 rr
      refine lc_mp wp_tup (ds := (d0 :: dr).zip dr) (fun _ => true) (fun _ y p => y = .bl (ltD p)) ⟨h2, SqT.of e2⟩ hD (by rw [List.length_zip, List.length_zip, aw.len, rr.len]) (fun _ _ _ _ _ h => h) (fun i T pr d H3 ep ed s3 eT m => ?_) (fun H3 ys s3 e al2 => ?_)
      · obtain ⟨p1, p2⟩ := pr
        obtain ⟨d1, d2⟩ := d
        obtain ⟨ea, eb⟩ := List.getElem?_zip_eq_some.mp ep
        obtain ⟨ga, gb⟩ := List.getElem?_zip_eq_some.mp ed
        have w1 := at2 aw ea ga
        have w2 := at2 rr eb gb
        obtain ⟨x, rfl, _⟩ := nm_str (List.all_eq_true.mp nm d1 (at_mem ga))
        obtain ⟨y, rfl, _⟩ := nm_str (List.all_eq_true.mp nm d2 (List.mem_cons_of_mem _ (at_mem gb)))
        cases w1
        cases w2
        refine ⟨T, _, rfl, SqT.of eT, rfl, _, _, rfl, _, _, rfl, rfl, rfl, _, rfl, _, rfl, _, _, rfl, rfl, ?_⟩
        exact mf_yes m hD (fun _ _ _ _ _ h => h) ed (by rw [List.length_zip]; have := sm.1; rw [List.length_cons] at this; omega) (Same.refl _) rfl rfl
      · rw [Rd.filter_all] at al2
        have ey := bl_map al2
        refine ⟨D, _, rfl, SqL.of (by rw [← ey]; exact e), ?_⟩
        rw [all_map, asc_zip _ _ nm]
        have q := q H3 ((s1.trans s2).trans s3)
        rw [nm] at q
        exact q
    | _ =>
      exact ⟨fun _ _ => False, ⟨_, rfl, _, .ty "tuple", _, _, _, rfl, .ty "tuple", ty, kt, _, rfl, iteT (q _ (Same.refl _))⟩, fun _ _ h => h.elim⟩
/-! ### is_tale -/
abbrev s_is_tale : Stmt := top 15
theorem sc_is_tale : FnScope ["value", "lot"] ["value"] (defScope s_is_tale) := ⟨rfl, rfl, rfl, by decide +kernel, rfl, by decide +kernel, by decide +kernel⟩
def Sm2 : PyData → Prop
  | .tuple ds => ds.length ≤ 1000 ∧ ∀ d ∈ ds, Sm1 d
  | _ => True
def spIsTale (K : PySem.W.Frag) : Sp := fun vs H Q _ => ∃ (v : V) (d : PyData), vs = [v] ∧ Dp K H v d ∧ Sm2 d ∧ ∀ H', Same H H' → Q (.bl (taleD d)) H'
theorem ok_is_tale {f : Addr} {fd : FuncData} (F : Fun K "is_tale" "is_tale" s_is_tale f fd) (C_is_lot : Cl P w K mg base "is_lot" ["value"] [] 2 (spIsLot K)) (n_all : mg "all" = none) (n_isinstance : mg "isinstance" = none) (n_tuple : mg "tuple" = none) : FnOk P w K mg base CX0 3 f fd ["value"] (spIsTale K) := by
  refine F.ok sc_is_tale (fun vs H Q E h => ?_) (fun cdv A outer s H vs Q E hr h => ?_)
  · obtain ⟨_, _, rfl, _⟩ := h
    rfl
  · obtain ⟨v, d, rfl, hv, sm, q⟩ := h
    refine ⟨_, (pss_one (ps_ret (pe_and (pe_callB call_isi (by rfl) n_isinstance (by decide +kernel) (pa_cons (pv 0) (pa_cons (pe_bltn (v := .ty "tuple") (by rfl) n_tuple (by decide +kernel) rfl) pa_nil))) (pe_one (pe_callB (cr_all rfl) (by rfl) n_all (by decide +kernel) (pa_cons (pe_lc (own := [("lot", 1)]) (g := gName 1) rfl sc_is_tale.nd (pi_seq (pv 0)) (blkOk_by (N := ["value", "lot"]) (sc := defScope s_is_tale) (by decide +kernel)) (fun _ _ _ _ _ => pg_name (i := 1) sc_is_tale.nd rfl (Or.inl rfl)) (fun _ _ _ _ _ => pts_nil) (fun _ _ _ _ _ => pe_use C_is_lot (hr.mono (by decide)) rfl (pa_cons (pv 1) pa_nil))) pa_nil)))))), ?_⟩
    have ty := ty_dp hv
    have kt := kit_tup hv
    cases hv with
    | @tup a xs ds ht ha =>
      have al := dpa_all ha
      have sm : ds.length ≤ 1000 ∧ ∀ d ∈ ds, Sm1 d := sm
      have hl := al.len
      have q : ∀ H', Same H H' → Q (.bl (ds.all lotD)) H' := q
      refine ⟨_, rfl, _, .ty "tuple", _, _, _, rfl, .ty "tuple", ty, kt, true, rfl, iteT ?_⟩
      refine ⟨_, rfl, a, _, rfl, .inr ht, fun J S W s0 D hD => ?_⟩
      refine lc_mf (ds := ds) W (fun _ => true) (fun _ y d => y = .bl (lotD d)) s0 hD hl (fun i x d H' ex ed s m => ?_) (fun H' ys s e al2 => ?_)
      · refine ⟨rfl, _, rfl, x, d, rfl, dp_same s (at2 al ex ed), sm.2 d (at_mem ed), fun H2 s2 => ?_⟩
        exact mf_yes m hD (fun _ _ _ _ _ h => h) ed (by omega) s2 rfl rfl
      · rw [Rd.filter_all] at al2
        have ey := bl_map al2
        refine ⟨D, _, rfl, SqL.of (by rw [← ey]; exact e), ?_⟩
        rw [all_map]
        exact q H' s
    | _ =>
      exact ⟨_, rfl, _, .ty "tuple", _, _, _, rfl, .ty "tuple", ty, kt, _, rfl, iteF (q _ (Same.refl _))⟩
end
end K6

namespace K6
open PySem PySem.Spec PyProof.Rows L2 Hb St Sq Ow En Zp RZ Rd
/-! ### tales as rows of texts -/
def TupS (K : PySem.W.Frag) (H : Hp) (v : V) (l : List Str) : Prop := ∃ b, v = .ref b ∧ SqT K H b (l.map V.str)
def LT (K : PySem.W.Frag) (H : Hp) (a : Addr) (ls : List (List Str)) : Prop := ∃ its, H a = some (.tup its) ∧ All2 (TupS K H) its ls
theorem TupS.fix {K : PySem.W.Frag} {H H' : Hp} {v : V} {l : List Str} (h : TupS K H v l) (f : Fix H H') : TupS K H' v l := let ⟨b, e, t⟩ := h; ⟨b, e, tupFix f t⟩
theorem not_mut_tup (xs : List V) : ¬ Mut (.tup xs) := by
  rintro (⟨_, e⟩ | ⟨_, e⟩) <;> cases e
theorem LT.fix {K : PySem.W.Frag} {H H' : Hp} {a : Addr} {ls : List (List Str)} (h : LT K H a ls) (f : Fix H H') : LT K H' a ls :=
  let ⟨its, e, al⟩ := h; ⟨its, f _ _ e (not_mut_tup _), al.imp fun _ _ t => t.fix f⟩
def natV (i : Nat) : V := .int (i : Nat)
def okL (ls : List (List Str)) (h : List Str) (i : Nat) : Bool := prt h (ls.getD i [])
theorem gr_cons_some {β : Type} {n : Nat} {ok : β → Nat → Bool} {h : β} {hs : List β} {k a : Nat} (e : Ks.fst n ok k h = some a) : Ks.gr n ok (h :: hs) k = a :: Ks.gr n ok hs (a + 1) := by
  show (match Ks.fst n ok k h with | none => [] | some a => a :: Ks.gr n ok hs (a + 1)) = _
  rw [e]
theorem gr_cons_none {β : Type} {n : Nat} {ok : β → Nat → Bool} {h : β} {hs : List β} {k : Nat} (e : Ks.fst n ok k h = none) : Ks.gr n ok (h :: hs) k = [] := by
  show (match Ks.fst n ok k h with | none => [] | some a => a :: Ks.gr n ok hs (a + 1)) = _
  rw [e]
section
variable {P : Program} {w : World} {K : PySem.W.Frag} {mg : Str → Option Value} {base : Heap}
/-! ### least_laying -/
abbrev s_least_laying : Stmt := top 18
theorem sc_least_laying : FnScope ["lots", "heard", "laying", "number", "lot"] ["lots", "heard"] (defScope s_least_laying) := ⟨rfl, rfl, rfl, by decide +kernel, rfl, by decide +kernel, by decide +kernel⟩
def spLay (K : PySem.W.Frag) : Sp := fun vs H Q _ => ∃ (a b : Addr) (ls hs : List (List Str)), vs = [.ref a, .ref b] ∧ LT K H a ls ∧ LT K H b hs ∧ ls.length ≤ 1000 ∧ hs.length ≤ 1000 ∧ (∀ h ∈ hs, h.length ≤ 1000) ∧
  ∀ p H', Same H H' → H' p = some (.lst ((Ks.gr ls.length (okL ls) hs 0).map natV)) → Q (.ref p) H'
theorem ok_least {f : Addr} {fd : FuncData} (F : Fun K "least_laying" "least_laying" s_least_laying f fd) (C_is_part : Cl P w K mg base "is_part" ["lot", "other"] [] 2 (spPart K)) (n_len : mg "len" = none) : FnOk P w K mg base CX0 3 f fd ["lots", "heard"] (spLay K) := by
  refine F.ok sc_least_laying (fun vs H Q E h => ?_) (fun cdv A outer s H vs Q E hr h => ?_)
  · obtain ⟨_, _, _, _, rfl, _⟩ := h
    rfl
  · obtain ⟨a, b, ls, hs, rfl, ha, hb, l1, l2, l3, q⟩ := h
    refine ⟨_, (pss_cons (ps_set (i := 2) sc_least_laying.nd rfl (Or.inl rfl) (pe_lst pa_nil))
    (pss_cons (ps_set (i := 3) sc_least_laying.nd rfl (Or.inl rfl) pe_int)
    (Evl.pss_cut (ps_for PassesOwn.never rfl (pi_seq (pv 1)) (pg_name (i := 4) sc_least_laying.nd rfl (Or.inl rfl))
      (Evl.pss_cut (ps_while PassesOwn.never (PW.pt (pw_and (pt_cmpR op_lt (pv 3) (pe_callB call_len_seq (by rfl) n_len PySem.boot_len (pa_cons (pv 0) pa_nil)) (nomark _)) (pw_and1 (pt_not (pt_val (pe_use C_is_part (hr.mono (by decide)) rfl (pa_cons (pv 4) (pa_cons (pe_ix ix_tup (pv 0) (pv 3) (fun _ _ => rfl)) pa_nil))))))))
      (pss_one (ps_aug (i := 3) sc_least_laying.nd rfl (Or.inl rfl) pe_int ip_add)))
    (Evl.pss_cut (ps_if (pt_cmpR op_eq (pv 3) (pe_callB call_len_seq (by rfl) n_len PySem.boot_len (pa_cons (pv 0) pa_nil)) (nomark _)) (pss_one (ps_ret (pv 2))) pss_nil)
    (pss_cons (ps_expr (pe_bm PySem.F.plainAttrs_list PySem.F.slot_list_append PySem.F.type_list_append mt_append (pv 2) (pa_cons (pv 3) pa_nil)))
    (pss_one (ps_aug (i := 3) sc_least_laying.nd rfl (Or.inl rfl) pe_int ip_add))))))
    (pss_one (ps_ret (pv 2)))))), ?_⟩
    refine ⟨by show 0 ≤ sizeLine; decide, fun p hp => ?_⟩
    have s0 := same_new hp (.lst [])
    have ep0 : upd H p (.lst []) p = some (.lst []) := upd_same
    have kin : ∀ H', Kept p (upd H p (.lst [])) H' → Same H H' := fun H' k x o e => k x o (s0 _ _ e) (ne_of_none e hp)
    generalize upd H p (.lst []) = H0 at s0 ep0 kin ⊢
    have ha0 := ha.fix (Fix.of s0)
    have hb0 := hb.fix (Fix.of s0)
    have na : a ≠ p := by obtain ⟨its, e, _⟩ := ha; exact ne_of_none e hp
    have nb : b ≠ p := by obtain ⟨its, e, _⟩ := hb; exact ne_of_none e hp
    let n := ls.length
    let ok := okL ls
    refine ⟨fun σ H' => (∃ k o, σ = [some (.ref a), some (.ref b), some (.ref p), some (.int k), o]) ∧ Kept p H0 H' ∧ H' p = some (.lst ((Ks.gr n ok hs 0).map natV)), ?_, ?_⟩
    · obtain ⟨bits, eb, alb⟩ := hb0
      refine ⟨_, rfl, b, _, rfl, .inr (SqT.of eb), fun J S W z0 => ?_⟩
      let Pv : Nat → L2.St → Hp → Prop := fun j σ H' => ∃ (k : Nat) (o : Option V) (laid : List Nat), σ = [some (.ref a), some (.ref b), some (.ref p), some (.int (k : Nat)), o] ∧ Kept p H0 H' ∧ H' p = some (.lst (laid.map natV)) ∧ k ≤ n ∧ laid ++ Ks.gr n ok (hs.drop j) k = Ks.gr n ok hs 0 ∧ laid.length ≤ j
      refine for_sq W Pv ⟨0, none, [], rfl, Kept.refl _ _, ep0, Nat.zero_le _, rfl, Nat.le_refl _⟩ (fun j σ H' pv => W.keep (fun o e => let ⟨_, _, _, _, k, _⟩ := pv; k _ _ e nb) z0) ?_ ?_
      · rintro j σ H1 y ey ⟨k, o, laid, rfl, k1, e1, kn, eg, lj⟩
        obtain ⟨h, eh, hy⟩ := alb.get ey
        have hj : j < hs.length := (List.getElem?_eq_some_iff.mp eh).1
        have lh := l3 h (at_mem eh)
        have edr : hs.drop j = h :: hs.drop (j + 1) := by rw [List.drop_eq_getElem_cons hj, (List.getElem?_eq_some_iff.mp eh).2]
        rw [edr] at eg
        let σW : Nat → L2.St := fun k2 => [some (.ref a), some (.ref b), some (.ref p), some (.int (k2 : Nat)), some y]
        refine ⟨fun σ H' => ∃ k2 : Nat, σ = σW k2 ∧ Kept p H0 H' ∧ H' p = some (.lst (laid.map natV)) ∧ k2 ≤ n ∧ k ≤ k2 ∧ (∀ i, k ≤ i → i < k2 → ok h i = false) ∧ (k2 = n ∨ ok h k2 = true), ?_, ?_⟩
        · refine ⟨fun m σ H' => ∃ k2 : Nat, m = n - k2 ∧ σ = σW k2 ∧ Kept p H0 H' ∧ H' p = some (.lst (laid.map natV)) ∧ k2 ≤ n ∧ k ≤ k2 ∧ (∀ i, k ≤ i → i < k2 → ok h i = false), ⟨n - k, k, rfl, rfl, k1, e1, kn, Nat.le_refl _, fun i h1 h2 => by omega⟩, ?_⟩
          rintro m σ H2 ⟨k2, rfl, rfl, k3, e3, kn2, kk, all⟩
          obtain ⟨aits, ea, ala⟩ := ha0.fix (Fix.kept ep0 k3)
          have la : aits.length = n := ala.len
          refine ⟨_, rfl, _, rfl, a, aits, rfl, .inr (SqT.of ea), _, _, rfl, rfl, _, rfl, ?_⟩
          rw [la]
          by_cases c : k2 < n
          · rw [decide_eq_true (show ((k2 : Nat) : Int) < (n : Nat) by omega)]
            refine iteT ?_
            obtain ⟨l, el⟩ : ∃ l, ls[k2]? = some l := ⟨_, List.getElem?_eq_getElem c⟩
            obtain ⟨z, ez, lb, rfl, hl⟩ := ala.getR el
            obtain ⟨hb', rfl, hhb⟩ := hy.fix (Fix.kept ep0 k3)
            refine ⟨_, rfl, _, rfl, _, rfl, a, aits, (k2 : Nat), .ref lb, rfl, rfl, SqT.of ea, atI_nat ez, hb', lb, h, l, rfl, hhb, hl, lh, fun H3 s3 => ?_⟩
            have eok : prt h l = ok h k2 := by show _ = prt h (ls.getD k2 []); rw [List.getD_eq_getElem?_getD, el]; rfl
            rw [eok]
            have k4 : Kept p H0 H3 := k3.trans fun x o e _ => s3 x o e
            refine ⟨_, rfl, ?_⟩
            cases cc : ok h k2 with
            | true => exact iteF ⟨k2, rfl, k4, s3 _ _ e3, kn2, kk, all, .inr cc⟩
            | false =>
              refine iteT ⟨fun σ H' => ∃ k2' : Nat, n - k2' < n - k2 ∧ σ = σW k2' ∧ Kept p H0 H' ∧ H' p = some (.lst (laid.map natV)) ∧ k2' ≤ n ∧ k ≤ k2' ∧ (∀ i, k ≤ i → i < k2' → ok h i = false), fun σ' H' ⟨k2', lt, r⟩ => ⟨_, lt, k2', rfl, r⟩, ?_⟩
              refine ⟨_, rfl, _, _, rfl, rfl, k2 + 1, by omega, ?_, k4, s3 _ _ e3, c, by omega, fun i h1 h2 => ?_⟩
              · rfl
              · by_cases e : i = k2
                · rw [e]; exact cc
                · exact all i h1 (by omega)
          · rw [decide_eq_false (show ¬ ((k2 : Nat) : Int) < (n : Nat) by omega)]
            exact iteF ⟨k2, rfl, k3, e3, kn2, kk, all, .inl (by omega)⟩
        rintro σ H2 ⟨k2, rfl, k3, e3, kn2, kk, all, fin⟩
        obtain ⟨aits, ea, ala⟩ := ha0.fix (Fix.kept ep0 k3)
        have la : aits.length = n := ala.len
        refine ⟨fun σ H' => σ = σW k2 ∧ H' = H2 ∧ k2 < n, ?_, ?_⟩
        · refine ⟨_, rfl, _, rfl, a, aits, rfl, .inr (SqT.of ea), rfl, _, rfl, ?_⟩
          rw [la]
          by_cases c : k2 = n
          · rw [decide_eq_true (by rw [c])]
            refine iteT ⟨_, rfl, ?_⟩
            have ef : Ks.fst n ok k h = none := Ks.fst_none.mpr fun i h1 h2 => all i h2 (by omega)
            rw [gr_cons_none ef, List.append_nil] at eg
            exact q p H2 (kin _ k3) (by rw [← eg]; exact e3)
          · rw [decide_eq_false (fun e => c (by injection e with e; omega))]
            exact iteF ⟨rfl, rfl, by omega⟩
        rintro σ H3 ⟨rfl, rfl, c⟩
        have okk : ok h k2 = true := fin.resolve_left (by omega)
        have ef : Ks.fst n ok k h = some k2 := Ks.fst_some.mpr ⟨⟨kk, okk⟩, c, fun i h1 h2 => all i h2 h1⟩
        rw [gr_cons_some ef] at eg
        have lenl : laid.length ≤ hs.length := by omega
        have app : (laid.map natV) ++ [natV k2] = (laid ++ [k2]).map natV := by rw [List.map_append]; rfl
        have k5 : Kept p H0 (upd H3 p (.lst ((laid ++ [k2]).map natV))) := fun x o e nx => by rw [upd_ne nx]; exact k3 x o e nx
        refine ⟨_, rfl, .inl ⟨rfl, _, SqL.of e3⟩, _, rfl, p, laid.map natV, natV k2, rfl, rfl, e3, by rw [List.length_map, sizeLine_eq]; omega, ?_⟩
        rw [app]
        refine ⟨_, rfl, _, _, rfl, rfl, k2 + 1, some y, laid ++ [k2], ?_, k5, upd_same, c, ?_, by rw [List.length_append]; show laid.length + 1 ≤ _; omega⟩
        · rfl
        · rw [List.append_assoc]
          exact eg
      · rintro σ H1 ⟨k, o, laid, rfl, k1, e1, kn, eg, lj⟩
        have ln : bits.length = hs.length := alb.len
        rw [ln, List.drop_length] at eg
        have eg : laid ++ [] = Ks.gr n ok hs 0 := eg
        rw [List.append_nil] at eg
        exact ⟨⟨k, o, rfl⟩, k1, by rw [← eg]; exact e1⟩
    rintro σ H1 ⟨⟨k, o, rfl⟩, k1, e1⟩
    exact ⟨_, rfl, q p H1 (kin _ k1) e1⟩
end
end K6

/-! errors of classes of the program's own, over Exception through other own classes, whose __init__ keeps one thing: self.at = at -/
namespace Xb
open PySem PySem.W PySem.Calls PyProof.Rows PySem.HandSPX
abbrev exB : List Value := [.type "Exception", .type "BaseException", .type "object"]
def iA (p1 p2 : Pos) : Arguments := { posonlyargs := [], args := [{ arg := "self", annotation := none, pos := p1 }, { arg := "at", annotation := none, pos := p2 }], vararg := none, kwonlyargs := [], kw_defaults := [], kwarg := none, defaults := [] }
def iB (q1 q2 q3 q4 : Pos) : List Stmt := [.Assign [.Attribute (.Name "self" q1) "at" q2] (.Name "at" q3) q4]
def iS : Scope := { kind := .function, names := [(PySem.Str.ofString "self", .local), (PySem.Str.ofString "at", .local)], isGenerator := false, isCoroutine := false, more := [] }
/-- what the written part says of the class cn, at C, and of its __init__, at fI -/
structure ErrC (K : Frag) (mg : Str → Option Value) (cn : Str) (C fI : Addr) : Prop where
  gC : mg cn = some (.ref C)
  cls : ∃ nm q N bs bm sn sub ab col dd k0 k1 k2 k3 k5, K.lookup C = some (excClassObj nm q C N bs bm true sn sub ab col dd k0 k1 k2 k3 k5 "Exception.__new__") ∧ excTail exB bm = true
  sa : findIn K (.ref C) "__setattr__" = some (some (.builtin "object.__setattr__"))
  ga : findIn K (.ref C) "__getattribute__" = some (some (.builtin "BaseException.__getattribute__"))
  gg : findIn K (.ref C) "__getattr__" = some none
  noN : findIn K (.ref C) "at" = some none
  iC : findIn K (.ref C) "__init__" = some (some (.ref fI))
  tC : typeIn K (.ref fI) = some (.type "function")
  kC : keepIn K (.ref C) = true
  exC : subIn K (.ref C) (.type "BaseException") = some true
  tyC : typeIn K (.ref C) = some (.type "type")
  hdC : hasDictIn K C = true
  te : exmOne K (.ref C) (.ref C) = some true
  fn : ∃ (oc : Value) (od : Option Addr) (qn : Str) (doc pm : Value) (an : Option Addr) (cdv ct : Value) (osl : Array (Option Value)) (p1 p2 q1 q2 q3 q4 : Pos),
    K.lookup fI = some ⟨oc, od, .func (fnOf "__init__" qn (iA p1 p2) (iB q1 q2 q3 q4) iS .none .none doc pm an cdv ct), osl⟩ ∧ codeIn K cdv qn = true
theorem one_size (v : Value) : [v].length ≤ sizeLine := by
  rw [sizeLine_eq]
  exact (by decide : 1 ≤ 16777216)
theorem at_local {M : Model} {s : Shared} {name : Str} {scope : Scope} {L a : Addr} {cd : Value} {m : Str → Option Value} {x : Str} {pos : Pos} {v : Value} {Q : Value → Shared → Prop} {A : Around} {E : Value → Shared → Prop} (hn : s.heap.Ns L m) (hv : m x = some v) (h : Q v s)
    (hk : scope.kind = .function := by rfl) (hl : (envOfC name scope L a cd).kindOf x = some .local := by rfl) (hd : (x == ("__debug__" : Str)) = false := by decide) :
    wpAny M A (eval (.Name x pos) (envOfC name scope L a cd)) Q E s := wpAny_Name (wpAny_loadName_local hk hl hn hv h) hd
/-- what __init__ leaves of a fresh exception at x -/
structure Ended (h h' : Heap) (x C dx t1 : Addr) (v : Value) : Prop where
  keep : ∀ b o, b ≠ x → h.get? b = some o → h'.get? b = some o
  obj : h'.get? x = some { cls := .ref C, dict := some dx, data := .fields #[.ref t1, .none, .none, .none, .bool false, .none] }
  dbig : h.objs.size ≤ dx
  dne : dx ≠ x
  ns : h'.Ns1 dx (fun y => if y = "at" then some v else none)
structure Made (h h' : Heap) (e C d : Addr) (v : Value) : Prop where
  keep : ∀ b o, h.get? b = some o → h'.get? b = some o
  new : h.objs.size ≤ e
  obj : ∃ oe vs, h'.get? e = some oe ∧ oe.cls = .ref C ∧ oe.dict = some d ∧ oe.data = .fields vs ∧ vs[1]? = some .none
  dbig : h.objs.size ≤ d
  dne : d ≠ e
  ns : h'.Ns1 d (fun y => if y = "at" then some v else none)
section
open Builtin Builtin.ObjectAttr
variable {prog : Program} {w : World} {A : Around} {E : Value → Shared → Prop} {R : Result → Shared → Prop} {K : Frag} {mg : Str → Option Value} {cn : Str} {C fI : Addr}
/-- the first store to such an exception: it gets its dict -/
theorem first_store {hp : Heap} {g : Array GenState} {d : Drawn} {t : Nat} {os : OsState} {name : Str} {tk : Tok} {v : Value} {x : Addr} {fv : Array Value} {cd : ClassData}
    (X : K.In hp) (hx : hp.get? x = some { cls := .ref C, data := .fields fv }) (hcd : clsIn K C = some cd) (ho : excOver K C exB = true) (hh : cd.hasDict = true) (ha : findIn K (.ref C) name = some none)
    (hq : ∀ h' tk' dx, (∀ b o, b ≠ x → hp.get? b = some o → h'.get? b = some o) → hp.objs.size ≤ dx → dx ≠ x → h'.get? x = some { cls := .ref C, dict := some dx, data := .fields fv } →
      h'.Ns1 dx (fun y => if y = name then some v else none) → R (.ok (.ret .none)) ⟨h', g, d, tk', os⟩) :
    codeAny (model prog w) A (.call (.builtin "object.__setattr__") ⟨[.ref x, .str name tk, v], []⟩) R ⟨hp, g, d, t, os⟩ := by
  have I : InstAt hp x { cls := .ref C, data := .fields fv } C none := ⟨hx, rfl, rfl, trivial⟩
  have nx : x ≠ hp.objs.size := Nat.ne_of_lt (Heap.lt_size hx)
  refine osa_openX (r := none) F.store_Exception X I ho (by unfold takerIn; rw [ha]; rfl) fun b => ?_
  show wpAny _ _ (storeInOwnDict (.ref x) (.ref C) (.str name tk) name v b) _ _ _
  have hC : Looks (model prog w) hp (classData C) cd := looks_clsIn X hcd
  obtain ⟨_, _, _, _, _, hd, _, _, _, _, _⟩ := cd
  dsimp only at hh
  subst hh
  unfold storeInOwnDict ownDictForStores
  repeat (first | with_reducible refine wpAny_loadPart_at hx ?_ | with_reducible refine hC.at ?_ | with_reducible refine HandSPX.store_in_new ?_ ?_ | wp_step)
  · exact ⟨_, #[], _, (Heap.get?_update_ne _ _ _ _ nx.symm).trans (Heap.get?_push_at rfl rfl), rfl, fun e he => absurd he (by simp), fun _ => rfl⟩
  · intro h' tk' hn' hs
    have old : (hp.push { cls := .type "dict", data := .dict #[] }).get? x = some { cls := .ref C, data := .fields fv } := Heap.get?_push_of_some _ hx
    refine hq h' tk' hp.objs.size (fun b o hb ho => ?_) (Nat.le_refl _) nx.symm ?_ hn'
    · exact (hs.2 b (Nat.ne_of_lt (Heap.lt_size ho))).trans ((Heap.get?_update_ne _ _ _ _ hb).trans (Heap.get?_push_of_some _ ho))
    · exact (hs.2 x nx).trans (Heap.get?_update_self _ old rfl)
theorem err_init (T : ErrC K mg cn C fI) {s : Shared} {x t0 : Addr} {v : Value} (X : K.In s.heap) (hlim : s.heap.NoLimit) (hx : s.heap.get? x = some (excO C t0)) (hroom : A.depth < recursionLimit)
    (hq : ∀ h' tk dx, Ended s.heap h' x C dx t0 v → R (.ok (.ret .none)) { s with heap := h', toks := tk }) :
    codeAny (model prog w) A (.call (.ref fI) ⟨[.ref x, v], []⟩) R s := by
  obtain ⟨oc, od, qn, doc, pm, an, cdv, ct, osl, p1, p2, q1, q2, q3, q4, ho, hcd⟩ := T.fn
  obtain ⟨nm, q, N, bs, bm, sn, sub, ab, col, dd, k0, k1, k2, k3, k5, hC, hbm⟩ := T.cls
  have hcl : clsIn K C = some { name := nm, bases := bs, mro := .ref C :: bm, ns := N, qualname := q, hasDict := true, slotNames := sn, subclasses := sub, abstract := ab, collection := col, hasDel := false } := by unfold clsIn; rw [hC] <;> rfl
  have over : excOver K C exB = true := by
    unfold excOver
    rw [hcl]
    show ((C == C) && excTail exB bm) = true
    rw [hbm, beq_self_eq_true]
    rfl
  refine Att.call_fn (binds := [("self", .ref x), ("at", v)]) X hlim ho hcd hroom (BindsTo.of_eq (by first | rfl | with_unfolding_all rfl)) (by first | rfl | decide | with_unfolding_all rfl) (fun s₁ IC => ?_) rfl rfl rfl
  obtain ⟨h₁, tk₁, rfl⟩ := IC.toInCall.same
  have k : ∀ b o, s.heap.get? b = some o → h₁.get? b = some o := IC.toInCall.keep
  have hn := IC.toInCall.ns
  have X₁ : K.In h₁ := X.keeps k
  have hx₁ := k _ _ hx
  show wpAny _ _ (execs _ _) _ _ _
  refine wpAny_execs_cons (plainObj_wpAny_Assign_Attribute ?_)
  refine at_local (v := v) hn (by first | rfl | with_unfolding_all rfl | kernel_rfl) (at_local (v := .ref x) hn (by first | rfl | with_unfolding_all rfl | kernel_rfl) ?_)
  refine set_plain X₁ (ox := excO C t0) (od := none) ⟨hx₁, rfl, rfl, trivial⟩ T.sa ?_
  refine first_store X₁ hx₁ hcl over rfl T.noN (fun h₃ tk₃ dx k₃ dn dne hx₃ hn₃ => ?_)
  show wpAny _ _ (execs _ _) _ _ _
  have z : s.heap.objs.size < h₁.objs.size := hn.lt
  exact wpAny_execs_nil (hq h₃ tk₃ dx ⟨fun b o hb e => k₃ b o hb (k b o e), hx₃, Nat.le_of_lt (Nat.lt_of_lt_of_le z dn), dne, hn₃⟩)
theorem err_made (T : ErrC K mg cn C fI) {s : Shared} {v : Value} (X : K.In s.heap) (hlim : s.heap.NoLimit) (hroom : A.depth + 1 < recursionLimit)
    (hq : ∀ h' tk e d, Made s.heap h' e C d v → R (.ok (.ret (.ref e))) { s with heap := h', toks := tk }) :
    codeAny (model prog w) A (.call (.ref C) ⟨[v], []⟩) R s := by
  obtain ⟨nm, q, N, bs, bm, sn, sub, ab, col, dd, k0, k1, k2, k3, k5, hC, hbm⟩ := T.cls
  obtain ⟨hp, g, dr, tk, os⟩ := s
  have k : ∀ b o, hp.get? b = some o → ((hp.push (kdv_tup [v])).push (excO C hp.objs.size)).get? b = some o := fun b o e => Heap.get?_push_of_some _ (Heap.get?_push_of_some _ e)
  have hget : ((hp.push (kdv_tup [v])).push (excO C hp.objs.size)).get? (hp.objs.size + 1) = some (excO C hp.objs.size) := by heap_get
  refine call_own F.excBase_Exception (fun X => excTail_contains X bm hbm) (X _ _ hC) (looks_findIn X T.iC) (fun self => bind_fn X self T.tC) (one_size v) ?_
  refine err_init (s := ⟨(hp.push (kdv_tup [v])).push (excO C hp.objs.size), g, dr, tk, os⟩) T (X.keeps k) (hlim.keeps k) hget ?_ fun h' tk' dx ⟨k', hx, dn, dne, hns⟩ => ?_
  · show A.depth + 1 < recursionLimit
    exact hroom
  · have old : ∀ b o, hp.get? b = some o → h'.get? b = some o := fun b o e => k' b o (Nat.ne_of_lt (Nat.lt_succ_of_lt (Heap.lt_size e))) (k b o e)
    have z : hp.objs.size + 1 + 1 ≤ dx := by
      first
        | (simpa only [Heap.size_push] using dn)
        | exact dn
        | (have q := dn; rw [Heap.size_push, Heap.size_push] at q; exact q)
    exact ⟨rfl, hq h' tk' (hp.objs.size + 1) dx ⟨old, Nat.le_succ _, ⟨_, _, hx, rfl, rfl, rfl, rfl⟩, Nat.le_trans (Nat.le_trans (Nat.le_succ _) (Nat.le_succ _)) z, dne, hns⟩⟩
end
end Xb
namespace Xb
open PySem PySem.Spec PyProof.Rows L2
theorem relO_at {v : V} {v' : Value} (r : RelV v v') (f : Str) : RelO (List.lookup f [(("at" : Str), v)]) (if f = "at" then some v' else none) := by
  by_cases hw : f = "at"
  · subst hw
    rw [if_pos rfl]
    have q : List.lookup ("at" : Str) [(("at" : Str), v)] = some v := by simp [List.lookup]
    rw [q]
    exact r
  · rw [if_neg hw]
    have qw : (f == ("at" : Str)) = false := by simpa using hw
    have q2 : List.lookup f [(("at" : Str), v)] = none := by simp [List.lookup, qw]
    rw [q2]
    trivial
section
variable {X : Cx} {cn : Str} {C fI : Addr}
/-- cn(e) -/
def tMk (C : Addr) (ta : TA) : L2.St → Hp → XK → Prop := fun σ H Q => ta σ H fun vs H1 => ∃ v, vs = [v] ∧ ∀ d, H1 d = none → Q (.ref C) (some d) (upd H1 d (.xd [(("at" : Str), v)]))
theorem pmk_at {a : Expr} {ta : TA} {p pos : Pos} {k : Nat} (T : ErrC X.K X.mg cn C fI) (hr : Room k X.A) (ha : PA X [a] ta) (hg : Gl X cn) (hdb : (cn == ("__debug__" : Str)) = false := by decide)
    (he : starEach (a :: []) X.env = (false, eval a X.env) :: starEach [] X.env := by rfl) (hpl : (backTo pos (starEach [] X.env)).any (·.1) = false := by rfl) :
    PMk X (.Call (.Name cn p) [a] [] pos) (tMk C ta) := by
  intro pins s σ H Q I h
  refine wpAny_Call_Name_kw (ld_glob I hg T.gC ?_ hdb)
  refine PySem.W.callWith_K (h₀ := X.base) I.ok.mod.kin T.kC (thn (ha.run pos pins s σ H _ I h) fun us s1 hh => ?_) he hpl
  obtain ⟨vs, H1, I1, r1, v, ev, q1⟩ := hh
  subst ev
  refine ⟨I1.kIn, ?_⟩
  cases r1 with
  | cons rv rn =>
    rename_i v' us'
    cases rn
    show wpAny _ _ (call (.ref C) [v']) _ _ _
    have hlim := I1.nolimit
    obtain ⟨hp, g, dr, tk, os⟩ := s1
    refine wpAny_call (err_made T I1.kIn hlim (by have := hr.dp; omega) fun h' tk' e d M => ?_)
    show MkP X pins σ Q (.ref e) ⟨h', g, dr, tk', os⟩
    obtain ⟨oe, fv, hoe, hc, hd, hdat, h1⟩ := M.obj
    have hns := M.ns
    obtain ⟨G', g1, g2⟩ := restrict h' fun b => decide (b ≠ e)
    have gk : ∀ b, b ≠ e → G'.get? b = h'.get? b := fun b hb => g1 b (decide_eq_true hb)
    have ge : G'.get? e = none := g2 e (by simp)
    have old : ∀ b o, hp.get? b = some o → G'.get? b = some o := fun b o q => (gk b (Nat.ne_of_lt (Nat.lt_of_lt_of_le (Heap.lt_size q) M.new))).trans (M.keep b o q)
    have ob : ObjOk X.prog X.w (upd H1 d (.xd [(("at" : Str), v)])) G' d (.xd [(("at" : Str), v)]) :=
      ⟨_, hns.at (fun o q => (gk d M.dne).trans q), fun f => relO_at rv f⟩
    have J : Inv X pins σ (upd H1 d (.xd [(("at" : Str), v)])) ⟨G', g, dr, tk', os⟩ := I1.laid (t' := tk') old M.dbig ob
    refine ⟨e, oe, fv, ⟨G', g, dr, tk', os⟩, _, .ref C, some d, rfl, J, fun b o q => ?_, ge, hoe, ⟨hc, hd⟩, hdat, h1, ?_, rfl, I1.bare, raises_own T.exC T.tyC, q1 d (I1.hok.fresh M.dbig)⟩
    · by_cases hb : b = e
      · have q' : G'.get? b = some o := q
        rw [hb, ge] at q'; cases q'
      · exact (gk b hb).symm.trans q
    · rw [upd_ne (Ne.symm M.dne)]
      exact I1.hok.fresh M.new
/-- raise cn(e) -/
def tRaise (C : Addr) (W : WX) (ta : TA) : TS := fun _ σ H => tMk C ta σ H fun cls d H' => W cls d σ H'
theorem ps_raiseAt {a : Expr} {ta : TA} {W : WX} {p pos pos2 : Pos} {k : Nat} (hc : X.calm = true) (T : ErrC X.K X.mg cn C fI) (hr : Room k X.A) (tk : Takes X W) (ha : PA X [a] ta) (hg : Gl X cn) (hdb : (cn == ("__debug__" : Str)) = false := by decide)
    (he : starEach (a :: []) X.env = (false, eval a X.env) :: starEach [] X.env := by rfl) (hpl : (backTo pos (starEach [] X.env)).any (·.1) = false := by rfl) :
    PS X (.Raise (some (.Call (.Name cn p) [a] [] pos)) none pos2) (tRaise C W ta) := ps_raise hc tk (pmk_at T hr ha hg hdb he hpl)
theorem ErrC.xf (T : ErrC X.K X.mg cn C fI) : XfC X.K C := ⟨T.ga, T.gg, T.exC, T.hdC⟩
end
end Xb

namespace K6
open PySem PySem.Spec PyProof.Rows L2 Hb St Sq Ow En Zp RZ Rd Xb
/-! ### a plain call of a def with a star -/
theorem pe_goR {X : Cx} {CX : CXT} {k : Nat} {f : Addr} {sp : Sp} {x : Str} {p pos : Pos} {e : Expr} {es : List Expr} {t : TA} {E : L2.St → XK} (F : FnR X.prog X.w X.K X.mg X.base CX k f sp) (hm : X.mg x = some (.ref f)) (hk : PySem.W.keepIn X.K (.ref f) = true) (hr : Room k X.A) (hx : ∀ σ, PassesAt CX X σ (E σ)) (hg : Gl X x) (ha : PA X (e :: es) t) (hdb : (x == ("__debug__" : Str)) = false := by decide)
    (he : starEach (e :: es) X.env = (false, eval e X.env) :: starEach es X.env := by rfl) (hpl : (backTo pos (starEach es X.env)).any (·.1) = false := by rfl) : PE X (.Call (.Name x p) (e :: es) [] pos) (tCallS sp E t) := by
  refine ⟨fun pins s σ H Q I h => wpAny_Call_Name_kw (ld_glob I hg hm ?_ hdb)⟩
  refine PySem.W.callWith_K (h₀ := X.base) I.ok.mod.kin hk (thn (ha.run pos pins s σ H _ I h) fun us s1 ⟨vs, H1, I1, r, q⟩ => ⟨I1.kIn, ?_⟩) he hpl
  refine wpAny_call (codeAny_mono (F X.A X.stack s1 H1 us vs Q (E σ) hr I1.env0 r q) fun r s' z => ?_)
  rcases r with u | (_ | _ | _ | v)
  · exact hx σ pins H1 s1 u s' I1 z
  · exact False.elim z
  · exact False.elim z
  · exact False.elim z
  · exact I1.after z
/-! ### need_tales -/
def firstNo (ds : List PyData) : Option Nat := ds.findIdx? fun d => !taleD d
section
variable {P : Program} {w : World} {K : PySem.W.Frag} {mg : Str → Option Value} {base : Heap}
abbrev s_need_tales : Stmt := top 16
theorem sc_need_tales : FnScope ["values", "at", "value"] [] (defScope s_need_tales) := ⟨rfl, rfl, rfl, by decide +kernel, rfl, by decide +kernel, by decide +kernel⟩
def errH (at_ : Int) : HO := .xd [(("at" : Str), .int at_)]
def spNeed (K : PySem.W.Frag) (C : Addr) : Sp := fun vs H Q E => ∃ (p : Addr) (xs : List V) (ds : List PyData), vs = [.ref p] ∧ H p = some (.tup xs) ∧ All2 (Dp K H) xs ds ∧ ds.length ≤ 1000 ∧ (∀ d ∈ ds, Sm2 d) ∧ (firstNo ds = none → ∀ H', Same H H' → Q .non H') ∧
  ∀ k, firstNo ds = some k → ∀ dd H', Same H H' → H' dd = some (errH (k : Nat)) → E (.ref C) (some dd) H'
def spNeedR (K : PySem.W.Frag) (C : Addr) : Sp := fun vs H Q E => ∃ ws rest : List V, vs = ws ++ rest ∧ ws.length = 0 ∧ rest.length ≤ sizeLine ∧ ∀ p : Addr, H p = none → spNeed K C (ws ++ [V.ref p]) (upd H p (.tup rest)) Q E
theorem sc_nt : FnScope ["values", "at", "value"] (([] : List Str) ++ [("values" : Str)]) (defScope s_need_tales) := ⟨rfl, rfl, rfl, by decide +kernel, rfl, by decide +kernel, by decide +kernel⟩
theorem ok_need {f C fI : Addr} {fd : FuncData} (F : Fun K "need_tales" "need_tales" s_need_tales f fd) (T : ErrC K mg "InvalidHeard" C fI) (C_is_tale : Cl P w K mg base "is_tale" ["value"] [] 3 (spIsTale K)) (n_enumerate : mg "enumerate" = none) : FnR P w K mg base (L2.CX P w) 4 f (spNeedR K C) := by
  obtain ⟨oc, od, kV, doc, pm, an, cdv, ct, osl, rfl, lk, hcd⟩ := F.ex
  refine StX.fn_star (ps := []) (pv := "values") (sp := spNeed K C) lk hcd sc_nt StX.cxUp (fun us rest hu => ?_) (fun A outer s H vs Q E hr h => ?_)
  · cases us with
    | nil => cases rest <;> rfl
    | cons _ _ => cases hu
  · obtain ⟨p, xs, ds, rfl, hp, al, dl, sm, q, e⟩ := h
    refine ⟨_, (pss_one (ps_for (passes_of rfl) rfl (pi_enumT (by rfl) n_enumerate (pa_cons (pv 0) pa_nil)) (pg_tup rfl (pgs_cons (pg_name (i := 1) sc_nt.nd rfl (Or.inl rfl)) (pgs_cons (pg_name (i := 2) sc_nt.nd rfl (Or.inl rfl)) pgs_nil)))
      (pss_one (ps_if (pt_not (pt_val (pe_use C_is_tale (hr.mono (by decide)) rfl (pa_cons (pv 2) pa_nil)))) (pss_one (ps_raiseAt rfl T hr (takes_of rfl rfl rfl rfl) (pa_cons (pv 1) pa_nil) rfl)) pss_nil)))), ?_⟩
    refine ⟨_, rfl, p, rfl, ⟨xs, SqT.of hp⟩, ?_⟩
    refine for_en en_tup (fun i σ H' => (∃ o1 o2, σ = [some (.ref p), o1, o2]) ∧ Same H H' ∧ ∀ d ∈ ds.take i, taleD d = true) ⟨⟨none, none, rfl⟩, Same.refl _, fun d hd => by cases hd⟩ (fun i σ H' pv => SqT.of (pv.2.1 _ _ hp)) ?_ ?_
    · rintro i σ H1 x t ex ⟨⟨o1, o2, rfl⟩, s1, all⟩ ht
      have s2 := same_new ht (.tup [.int (i : Nat), x])
      refine ⟨t, _, rfl, SqT.of upd_same, rfl, _, _, rfl, _, _, rfl, rfl, ?_⟩
      generalize upd H1 t (.tup [.int (i : Nat), x]) = H2 at s2 ⊢
      obtain ⟨d, ed, hd⟩ := al.get ex
      refine ⟨_, rfl, x, d, rfl, dp_same (s1.trans s2) hd, sm d (at_mem ed), fun H3 s3 => ⟨_, rfl, ?_⟩⟩
      have s13 := (s1.trans s2).trans s3
      cases c : taleD d with
      | true =>
        refine iteF ⟨⟨_, _, rfl⟩, s13, fun d' hd' => ?_⟩
        rw [List.take_add_one, ed] at hd'
        rcases List.mem_append.mp hd' with z | z
        · exact all d' z
        · rw [List.mem_singleton.mp z]; exact c
      | false =>
        refine iteT ⟨_, rfl, _, rfl, fun dd hn => ?_⟩
        refine e i ?_ dd _ (s13.trans (same_new hn _)) upd_same
        unfold firstNo
        rw [List.findIdx?_eq_some_iff_getElem]
        have hi : i < ds.length := (List.getElem?_eq_some_iff.mp ed).1
        refine ⟨hi, ?_, fun j hj => ?_⟩
        · rw [(List.getElem?_eq_some_iff.mp ed).2, c]; rfl
        · have hj' : j < ds.length := by omega
          rw [all (ds[j]) (List.mem_iff_getElem?.mpr ⟨j, by rw [List.getElem?_take_of_lt hj]; exact List.getElem?_eq_getElem hj'⟩)]; decide
    · rintro σ H1 ⟨⟨o1, o2, rfl⟩, s1, all⟩
      refine q ?_ _ s1
      unfold firstNo
      rw [List.findIdx?_eq_none_iff]
      intro d hd
      rw [List.take_of_length_le (by rw [al.len]; exact Nat.le_refl _)] at all
      rw [all d hd]; rfl
end
end K6

namespace K6
open PySem PySem.Spec PyProof.Rows L2 Hb St Sq Ow En Zp RZ Rd Xb
/-! ### arguments that ought to be tales -/
def grL (ls hs : List (List Str)) : List Nat := Ks.gr ls.length (okL ls) hs 0
def stuckN (ls hs : List (List Str)) : Option Nat := if (grL ls hs).length < hs.length then some (grL ls hs).length else none
def optV : Option Nat → V
  | some k => .int (k : Nat)
  | none => .non
structure TIn (K : PySem.W.Frag) (H : Hp) (v u : V) (d e : PyData) (ls hs : List (List Str)) : Prop where
  dv : Dp K H v d
  du : Dp K H u e
  sd : Sm2 d
  se : Sm2 e
  ok : firstNo [d, e] = none → ∃ a b, v = .ref a ∧ u = .ref b ∧ LT K H a ls ∧ LT K H b hs
  ll : ls.length ≤ 1000
  lh : hs.length ≤ 1000
  l3 : ∀ h ∈ hs, h.length ≤ 1000
  l4 : ∀ l ∈ ls, l.length ≤ 1000
theorem TIn.same {K : PySem.W.Frag} {H H' : Hp} {v u : V} {d e : PyData} {ls hs : List (List Str)} (t : TIn K H v u d e ls hs) (s : Same H H') : TIn K H' v u d e ls hs :=
  ⟨dp_same s t.dv, dp_same s t.du, t.sd, t.se, fun n => let ⟨a, b, x, y, p, q⟩ := t.ok n; ⟨a, b, x, y, p.fix (Fix.of s), q.fix (Fix.of s)⟩, t.ll, t.lh, t.l3, t.l4⟩
section
variable {P : Program} {w : World} {K : PySem.W.Frag} {mg : Str → Option Value} {base : Heap}
/-- a def of the text that may raise, by its promise -/
structure Cx_ (P : Program) (w : World) (K : PySem.W.Frag) (mg : Str → Option Value) (base : Heap) (x : Str) (ps : List Str) (lv : Nat) (sp : Sp) : Prop where
  ex : ∃ (f : Addr) (fd : FuncData), FnOk P w K mg base (L2.CX P w) lv f fd ps sp ∧ mg x = some (.ref f) ∧ PySem.W.keepIn K (.ref f) = true ∧ Binds K fd ps []
theorem pe_useX {X : Cx} {ps : List Str} {lv : Nat} {sp : Sp} {E : L2.St → XK} {x : Str} {p pos : Pos} {e : Expr} {es : List Expr} {t : TA} (C : Cx_ X.prog X.w X.K X.mg X.base x ps lv sp) (hr : Room lv X.A) (hx : ∀ σ, PassesAt (L2.CX X.prog X.w) X σ (E σ)) (hg : Gl X x) (ha : PA X (e :: es) t) (hdb : (x == ("__debug__" : Str)) = false := by decide)
    (he : starEach (e :: es) X.env = (false, eval e X.env) :: starEach es X.env := by rfl) (hpl : (backTo pos (starEach es X.env)).any (·.1) = false := by rfl) : PE X (.Call (.Name x p) (e :: es) [] pos) (tCallS sp E t) :=
  let ⟨_, _, F, hm, hk, hb⟩ := C.ex
  pe_callS F hr hg hm hk hb hx ha hdb he hpl
/-! ### stuck_at -/
abbrev s_stuck_at : Stmt := top 19
theorem sc_stuck_at : FnScope ["lots", "heard", "many"] ["lots", "heard"] (defScope s_stuck_at) := ⟨rfl, rfl, rfl, by decide +kernel, rfl, by decide +kernel, by decide +kernel⟩
def spStuck (K : PySem.W.Frag) (C : Addr) : Sp := fun vs H Q E => ∃ (v u : V) (d e : PyData) (ls hs : List (List Str)), vs = [v, u] ∧ TIn K H v u d e ls hs ∧ (firstNo [d, e] = none → ∀ H', Same H H' → Q (optV (stuckN ls hs)) H') ∧
  ∀ k, firstNo [d, e] = some k → ∀ dd H', Same H H' → H' dd = some (errH (k : Nat)) → E (.ref C) (some dd) H'
theorem ok_stuck {f fn C : Addr} {fd : FuncData} (F : Fun K "stuck_at" "stuck_at" s_stuck_at f fd) (N : FnR P w K mg base (L2.CX P w) 4 fn (spNeedR K C)) (gN : mg "need_tales" = some (.ref fn)) (kN : PySem.W.keepIn K (.ref fn) = true) (C_least_laying : Cl P w K mg base "least_laying" ["lots", "heard"] [] 3 (spLay K)) (n_len : mg "len" = none) : FnOk P w K mg base (L2.CX P w) 5 f fd ["lots", "heard"] (spStuck K C) := by
  refine F.okX sc_stuck_at (fun vs H Q E h => ?_) (fun cdv A outer s H vs Q E hr h => ?_)
  · obtain ⟨_, _, _, _, _, _, rfl, _⟩ := h
    rfl
  · obtain ⟨v, u, d, e, ls, hs, rfl, ti, q, qe⟩ := h
    refine ⟨_, (pss_cons (ps_expr (pe_goR N gN kN (hr.mono (by decide)) (fun σ => passAt (takes_of rfl rfl rfl rfl) σ) rfl (pa_cons (pv 0) (pa_cons (pv 1) pa_nil))))
      (pss_cons (ps_set (i := 2) sc_stuck_at.nd rfl (Or.inl rfl) (pe_callB call_len_seq (by rfl) n_len PySem.boot_len (pa_cons (pe_use C_least_laying (hr.mono (by decide)) rfl (pa_cons (pv 0) (pa_cons (pv 1) pa_nil))) pa_nil)))
      (pss_one (ps_ret (pe_ifExp (pt_cmpR op_lt (pv 2) (pe_callB call_len_seq (by rfl) n_len PySem.boot_len (pa_cons (pv 1) pa_nil)) (nomark _)) (pv 2) pe_non))))), ?_⟩
    refine ⟨_, rfl, _, rfl, [], [v, u], rfl, rfl, by show 2 ≤ sizeLine; decide, fun p hp => ?_⟩
    have s1 := same_new hp (.tup [v, u])
    refine ⟨p, [v, u], [d, e], rfl, upd_same, .cons (dp_same s1 ti.dv) (.cons (dp_same s1 ti.du) .nil), by show 2 ≤ 1000; decide, fun d' hd' => ?_, fun no H2 s2 => ?_, fun k hk dd H2 s2 ed => qe k hk dd H2 (s1.trans s2) ed⟩
    · rcases List.mem_cons.mp hd' with rfl | z
      · exact ti.sd
      · rw [List.mem_singleton.mp z]; exact ti.se
    have t2 := ti.same (s1.trans s2)
    obtain ⟨a, b, rfl, rfl, ha, hb⟩ := t2.ok no
    refine ⟨_, rfl, _, rfl, a, b, ls, hs, rfl, ha, hb, t2.ll, t2.lh, t2.l3, fun g H3 s3 eg => ?_⟩
    obtain ⟨bits, eb, alb⟩ := hb.fix (Fix.of s3)
    have lb : bits.length = hs.length := alb.len
    refine ⟨g, _, rfl, .inl (SqL.of eg), _, rfl, _, rfl, b, bits, rfl, .inr (SqT.of eb), _, _, rfl, rfl, _, rfl, ?_⟩
    have sf := (s1.trans s2).trans s3
    have lm : ((Ks.gr ls.length (okL ls) hs 0).map natV).length = (grL ls hs).length := List.length_map ..
    rw [lm, lb]
    have q := q no H3 sf
    unfold stuckN at q
    by_cases c : (grL ls hs).length < hs.length
    · rw [decide_eq_true (show (((grL ls hs).length : Nat) : Int) < (hs.length : Nat) by omega)]
      rw [if_pos c] at q
      exact iteT ⟨_, rfl, q⟩
    · rw [decide_eq_false (show ¬ (((grL ls hs).length : Nat) : Int) < (hs.length : Nat) by omega)]
      rw [if_neg c] at q
      exact iteF q
/-! ### need_laying -/
abbrev s_need_laying : Stmt := top 21
theorem sc_need_laying : FnScope ["lots", "heard", "many"] ["lots", "heard"] (defScope s_need_laying) := ⟨rfl, rfl, rfl, by decide +kernel, rfl, by decide +kernel, by decide +kernel⟩
/-- what a need of a laying does: the two ends of a refusal -/
def Refd (K : PySem.W.Frag) (C R : Addr) (E : XK) (H : Hp) (d e : PyData) (ls hs : List (List Str)) : Prop :=
  (∀ m, firstNo [d, e] = none → stuckN ls hs = some m → ∀ dd H', Same H H' → H' dd = some (errH (m : Nat)) → E (.ref R) (some dd) H') ∧
  ∀ k, firstNo [d, e] = some k → ∀ dd H', Same H H' → H' dd = some (errH (k : Nat)) → E (.ref C) (some dd) H'
def spNeedL (K : PySem.W.Frag) (C R : Addr) : Sp := fun vs H Q E => ∃ (v u : V) (d e : PyData) (ls hs : List (List Str)), vs = [v, u] ∧ TIn K H v u d e ls hs ∧ (firstNo [d, e] = none → stuckN ls hs = none → ∀ H', Same H H' → Q .non H') ∧ Refd K C R E H d e ls hs
theorem ok_needL {f C R fR : Addr} {fd : FuncData} (F : Fun K "need_laying" "need_laying" s_need_laying f fd) (TR : ErrC K mg "Refused" R fR) (C_stuck_at : Cx_ P w K mg base "stuck_at" ["lots", "heard"] 5 (spStuck K C)) : FnOk P w K mg base (L2.CX P w) 6 f fd ["lots", "heard"] (spNeedL K C R) := by
  refine F.okX sc_need_laying (fun vs H Q E h => ?_) (fun cdv A outer s H vs Q E hr h => ?_)
  · obtain ⟨_, _, _, _, _, _, rfl, _⟩ := h
    rfl
  · obtain ⟨v, u, d, e, ls, hs, rfl, ti, q, qr, qe⟩ := h
    refine ⟨_, (pss_cons (ps_set (i := 2) sc_need_laying.nd rfl (Or.inl rfl) (pe_useX C_stuck_at (hr.mono (by decide)) (fun σ => passAt (takes_of rfl rfl rfl rfl) σ) rfl (pa_cons (pv 0) (pa_cons (pv 1) pa_nil))))
      (pss_one (ps_if (pt_cmpR op_notN (pv 2) pe_non (nomark _)) (pss_one (ps_raiseAt rfl TR hr (takes_of rfl rfl rfl rfl) (pa_cons (pv 2) pa_nil) rfl)) pss_nil))), ?_⟩
    refine ⟨_, rfl, _, rfl, v, u, d, e, ls, hs, rfl, ti, fun no H1 s1 => ?_, fun k hk dd H1 s1 ed => qe k hk dd H1 s1 ed⟩
    cases em : stuckN ls hs with
    | none =>
      exact ⟨_, rfl, rfl, _, rfl, iteF (q no em H1 s1)⟩
    | some m =>
      refine ⟨_, rfl, rfl, _, rfl, iteT ⟨_, rfl, _, rfl, fun dd hn => ?_⟩⟩
      exact qr m no em dd _ (s1.trans (same_new hn _)) upd_same
/-! ### first_laying -/
abbrev s_first_laying : Stmt := top 20
theorem sc_first_laying : FnScope ["lots", "heard"] ["lots", "heard"] (defScope s_first_laying) := ⟨rfl, rfl, rfl, by decide +kernel, rfl, by decide +kernel, by decide +kernel⟩
def spFirst (K : PySem.W.Frag) (C R : Addr) : Sp := fun vs H Q E => ∃ (v u : V) (d e : PyData) (ls hs : List (List Str)), vs = [v, u] ∧ TIn K H v u d e ls hs ∧ (firstNo [d, e] = none → stuckN ls hs = none → ∀ p H', Same H H' → H' p = some (.tup ((grL ls hs).map natV)) → Q (.ref p) H') ∧ Refd K C R E H d e ls hs
theorem ok_first {f C R : Addr} {fd : FuncData} (F : Fun K "first_laying" "first_laying" s_first_laying f fd) (C_need_laying : Cx_ P w K mg base "need_laying" ["lots", "heard"] 6 (spNeedL K C R)) (C_least_laying : Cl P w K mg base "least_laying" ["lots", "heard"] [] 3 (spLay K)) (n_tuple : mg "tuple" = none) : FnOk P w K mg base (L2.CX P w) 7 f fd ["lots", "heard"] (spFirst K C R) := by
  refine F.okX sc_first_laying (fun vs H Q E h => ?_) (fun cdv A outer s H vs Q E hr h => ?_)
  · obtain ⟨_, _, _, _, _, _, rfl, _⟩ := h
    rfl
  · obtain ⟨v, u, d, e, ls, hs, rfl, ti, q, qr, qe⟩ := h
    refine ⟨_, (pss_cons (ps_expr (pe_useX C_need_laying (hr.mono (by decide)) (fun σ => passAt (takes_of rfl rfl rfl rfl) σ) rfl (pa_cons (pv 0) (pa_cons (pv 1) pa_nil))))
      (pss_one (ps_ret (pe_callTy call_tuple_of (by rfl) n_tuple (by decide +kernel) (pa_cons (pe_use C_least_laying (hr.mono (by decide)) rfl (pa_cons (pv 0) (pa_cons (pv 1) pa_nil))) pa_nil))))), ?_⟩
    refine ⟨_, rfl, _, rfl, v, u, d, e, ls, hs, rfl, ti, fun no em H1 s1 => ?_, fun m no em dd H1 s1 ed => qr m no em dd H1 s1 ed, fun k hk dd H1 s1 ed => qe k hk dd H1 s1 ed⟩
    have t1 := ti.same s1
    obtain ⟨a, b, rfl, rfl, ha, hb⟩ := t1.ok no
    refine ⟨_, rfl, _, rfl, a, b, ls, hs, rfl, ha, hb, t1.ll, t1.lh, t1.l3, fun g H2 s2 eg => ?_⟩
    exact ⟨g, _, rfl, .inl ⟨SqL.of eg, fun l hl => q no em l _ ((s1.trans s2).trans (same_new hl _)) upd_same⟩⟩
end
end K6

/-! xs[::-1] of a tuple -/
namespace Rv
open PySem PySem.Spec PyProof.Rows L2 Hb Sq Ow
theorem places_rev (n : Nat) : Builtin.Slice.slicePlaces ((n : Int) - 1) (-1) (-1) = n := by
  unfold Builtin.Slice.slicePlaces
  rw [if_neg (by decide)]
  by_cases c : n = 0
  · subst c; decide
  · rw [if_pos (by omega)]
    have : ((n : Int) - 1 - -1 - 1) / - -1 + 1 = (n : Int) := by
      have : (- -1 : Int) = 1 := rfl
      rw [this, Int.ediv_one]; omega
    rw [this]; omega
theorem applied_rev {prog : Program} {w : World} {A : Around} {E : Value → Shared → Prop} {s : Shared} {sl : Addr} {vl vu vs : Value} {n : Nat} {Q : Int × Int × Nat → Shared → Prop}
    (hs : s.heap.IsSliceOf sl vl vu vs) (pl : IsPart vl none) (pu : IsPart vu none) (ps : IsPart vs (some (-1))) (h : Q ((n : Int) - 1, -1, n) s) : wpAny (model prog w) A (Builtin.Slice.sliceApplied (.ref sl) (pure (n : Int))) Q E s := by
  obtain ⟨os, hos, hcs, hds⟩ := id hs
  refine wpAny_bind (wpAny_bind (wpAny_field hos hds rfl (wpAny_bind (wpAny_field hos hds rfl (wpAny_bind (wpAny_field hos hds rfl (wpAny_pure (wpAny_bind (HT.slicePart_ ps ?_)))))))))
  show wpAny (model prog w) A (if ((-1 : Int) == 0) = true then _ else _) Q E s
  rw [if_neg (by decide)]
  refine wpAny_bind (HT.slicePart_ pl (wpAny_bind (HT.slicePart_ pu (wpAny_bind (wpAny_pure ?_)))))
  show wpAny (model prog w) A (pure ((n : Int) - 1, -1, Builtin.Slice.slicePlaces ((n : Int) - 1) (-1) (-1))) Q E s
  rw [places_rev]
  exact wpAny_pure h
theorem fm_map {α β : Type} (f : α → Option β) (g : α → β) : ∀ l : List α, (∀ k ∈ l, f k = some (g k)) → l.filterMap f = l.map g
  | [], _ => rfl
  | a :: l, h => by
    rw [List.filterMap_cons, h a List.mem_cons_self, List.map_cons, fm_map f g l fun k hk => h k (List.mem_cons_of_mem _ hk)]
theorem pick_rev (xs : Array Value) : (List.filterMap (fun k : Nat => xs[(((xs.size : Nat) : Int) - 1 + (k : Int) * -1).toNat]?) (List.range xs.size)).toArray = xs.toList.reverse.toArray := by
  congr 1
  apply List.ext_getElem?
  intro i
  have key : List.filterMap (fun k : Nat => xs[(((xs.size : Nat) : Int) - 1 + (k : Int) * -1).toNat]?) (List.range xs.size) = (List.range xs.size).map (fun k => xs.getD (xs.size - 1 - k) .none) := by
    refine fm_map _ _ _ fun k hk => ?_
    have hk := List.mem_range.mp hk
    have e : (((xs.size : Nat) : Int) - 1 + (k : Int) * -1).toNat = xs.size - 1 - k := by omega
    rw [e]
    have hlt : xs.size - 1 - k < xs.size := by omega
    rw [Array.getElem?_eq_getElem hlt]
    simp [Array.getD, hlt]
  rw [key, List.getElem?_map]
  by_cases hi : i < xs.size
  · rw [List.getElem?_range hi, List.getElem?_reverse (by rw [Array.length_toList]; exact hi)]
    have hlt : xs.size - 1 - i < xs.size := by omega
    rw [Array.length_toList, Array.getElem?_toList, Array.getElem?_eq_getElem hlt]
    simp [Array.getD, hlt]
  · rw [List.getElem?_eq_none (by rw [List.length_range]; omega), List.getElem?_eq_none (by rw [List.length_reverse, Array.length_toList]; omega)]
    rfl
theorem getItem_tuple_rev {prog : Program} {w : World} {A : Around} {E : Value → Shared → Prop} {s : Shared} {t sl : Addr} {items : Array Value} {vl vu vs : Value} {Q : Value → Shared → Prop}
    (ht : IsTup s.heap t items) (hs : s.heap.IsSliceOf sl vl vu vs) (pl : IsPart vl none) (pu : IsPart vu none) (ps : IsPart vs (some (-1)))
    (h : Q (.ref s.heap.objs.size) { s with heap := s.heap.push { cls := .type "tuple", data := .seq items.toList.reverse.toArray } }) (hsz : items.size ≤ sizeLine) :
    wpAny (model prog w) A (getItem (.ref t) (.ref sl)) Q E s := by
  obtain ⟨os, hos, hcs, hds⟩ := id hs
  have hTs : s.TypeIs (.ref sl) "slice" := ⟨os, hos, hcs⟩
  refine wpAny_holding (wpAny_bind (wpAny_sequenceKey ht.typeIs (by decide) (wpAny_bind (wpAny_callSpecial?_slot ht.typeIs PyProof.Rows.slot_tuple_getitem (wpAny_call_entry PyProof.Rows.slot_tuple_getitem ht.typeIs PyProof.Rows.entry_tuple_getitem ?_ (PyProof.Rows.args_tuple_getitem (.ref t) (.ref sl)))))))
  unfold Builtin.«tuple.__getitem__»
  rw [show slotArgs "__getitem__" 1 { pos := [Value.ref t, Value.ref sl] } = pure (Value.ref t, [Value.ref sl]) from rfl]
  refine wpAny_bind (wpAny_pure ?_)
  refine wpAny_bind (PyProof.Rows.tupleItemsOf_ ht (wpAny_bind (wpAny_typeOf hTs ?_)))
  rw [if_pos (by decide)]
  refine wpAny_bind (applied_rev hs pl pu ps ?_)
  show wpAny (model prog w) A.in1 (if (((items.size : Int) - 1 == 0 && (-1 : Int) == 1) && items.size == items.size) = true then _ else _) _ E s
  rw [if_neg (by simp)]
  show wpAny (model prog w) A.in1 (do let r ← Builtin.Tuple.tupleExact (List.filterMap (fun k : Nat => items[(((items.size : Nat) : Int) - 1 + (k : Int) * -1).toNat]?) (List.range items.size)).toArray; ret r) _ E s
  rw [pick_rev]
  refine wpAny_bind (wpAny_newObj_type (wpAny_pure ⟨.ref s.heap.objs.size, rfl, wpAny_pure h⟩) ?_)
  show items.toList.reverse.toArray.size ≤ sizeLine
  rw [List.size_toArray, List.length_reverse, Array.length_toList]
  exact hsz
def tRevT (K : PySem.W.Frag) (te : TE) : TE := fun σ H Q => te σ H fun x H1 => ∃ a xs, x = .ref a ∧ SqT K H1 a xs ∧ ∀ p, H1 p = none → Q (.ref p) (upd H1 p (.tup xs.reverse))
theorem pe_revT {X : Cx} {e st : Expr} {te ts : TE} {p3 pos : Pos} (K : PySem.W.Frag) (he : PE X e te) (hs : PE X st ts) (hN : ∀ σ H (Q : VK), Q (.int (-1)) H → ts σ H Q) (hK : X.K = K := by rfl) : PE X (.Subscript e (.Slice none none (some st) p3) pos) (tRevT K te) := by
  subst hK
  refine ⟨fun pins s σ H Q I h => Subscript_ (thn (he.run pins s σ H _ I h) fun v s1 ⟨x, H1, I1, r1, a, xs, ex, hx, q⟩ => ?_)⟩
  subst ex; cases r1
  refine wpAny_Slice (thn (po_none.run pins s1 σ H1 (fun o H2 => o = none ∧ H2 = H1) I1 ⟨rfl, rfl⟩) fun vl s2 ⟨l, H2, I2, pl, el, e2⟩ => ?_)
  subst el e2
  refine thn (po_none.run pins s2 σ H2 (fun o H3 => o = none ∧ H3 = H2) I2 ⟨rfl, rfl⟩) fun vu s3 ⟨u, H3, I3, pu, eu, e3⟩ => ?_
  subst eu e3
  refine thn ((po_some hs).run pins s3 σ H3 (fun o H4 => o = some (-1) ∧ H4 = H3) I3 (hN σ H3 _ ⟨-1, rfl, rfl, rfl⟩)) fun vs s4 ⟨o, H4, I4, ps, eo, e4⟩ => ?_
  subst eo e4
  have I5 : Inv X pins σ H4 { s4 with heap := s4.heap.push { cls := .type "slice", data := .fields #[vl, vu, vs] } } := I4.kept (t' := s4.toks) fun b ob q => Heap.get?_push_of_some _ q
  obtain ⟨its, r, ht, hz⟩ := I5.tuple hx
  have hlen := r.length
  show wpAny (model X.prog X.w) X.A (subscriptTail e (.Slice none none (some st) p3) (.ref a) (.ref s4.heap.objs.size)) (EP X pins σ Q) X.xe { s4 with heap := s4.heap.push { cls := .type "slice", data := .fields #[vl, vu, vs] } }
  refine tail_any (ops := [.ref a, .ref s4.heap.objs.size]) ht.typeIs (PyProof.Rows.slot_tuple_getitem.lookup) ?_ (by with_unfolding_all rfl)
  refine getItem_tuple_rev ht (Heap.IsSliceOf.new _ vl vu vs) pl pu ps ?_ (by rw [List.size_toArray]; omega)
  exact ⟨.ref _, _, I5.laid (t' := s4.toks) (o := .tup xs.reverse) (fun b ob q => Heap.get?_push_of_some _ q) (Nat.le_refl _) ⟨by rw [List.length_reverse]; exact hz, _, r.reverse, _, Heap.get?_push_size _ rfl, rfl, 0, rfl⟩, rfl, q _ (I5.hok.fresh (Nat.le_refl _))⟩
end Rv

namespace K6
open PySem PySem.Spec PyProof.Rows L2 Hb St Sq Ow En Zp RZ Rd Xb Rv
theorem fst_congr {β : Type} {n : Nat} {ok ok' : β → Nat → Bool} (h : ∀ g a, a < n → ok g a = ok' g a) (k : Nat) (g : β) : Ks.fst n ok k g = Ks.fst n ok' k g := by
  cases e : Ks.fst n ok' k g with
  | none =>
    have := Ks.fst_none.mp e
    exact Ks.fst_none.mpr fun b hb hk => by rw [h g b hb]; exact this b hb hk
  | some a =>
    obtain ⟨⟨h1, h2⟩, h3, h4⟩ := Ks.fst_some.mp e
    exact Ks.fst_some.mpr ⟨⟨h1, by rw [h g a h3]; exact h2⟩, h3, fun b hb hk => by rw [h g b (by omega)]; exact h4 b hb hk⟩
theorem gr_congr {β : Type} {n : Nat} {ok ok' : β → Nat → Bool} (h : ∀ g a, a < n → ok g a = ok' g a) : ∀ (hs : List β) (k : Nat), Ks.gr n ok hs k = Ks.gr n ok' hs k
  | [], _ => rfl
  | g :: hs, k => by
    cases e : Ks.fst n ok' k g with
    | none => rw [gr_cons_none e, gr_cons_none (by rw [fst_congr h]; exact e)]
    | some a => rw [gr_cons_some e, gr_cons_some (by rw [fst_congr h]; exact e), gr_congr h hs (a + 1)]
def bkL (ls hs : List (List Str)) : List Nat := Ks.bk ls.length (okL ls) hs
theorem bk_rev (ls hs : List (List Str)) : ((grL ls.reverse hs.reverse).reverse.map fun a => ls.length - 1 - a) = bkL ls hs := by
  unfold bkL Ks.bk Ks.rv grL
  rw [List.length_reverse]
  rw [gr_congr (ok' := fun g a => okL ls g (ls.length - 1 - a)) fun g a ha => ?_]
  unfold okL
  rw [List.getD_eq_getElem?_getD, List.getD_eq_getElem?_getD, List.getElem?_reverse ha]
theorem rev2 {α β : Type} {R : α → β → Prop} : ∀ {as : List α} {bs : List β}, All2 R as bs → All2 R as.reverse bs.reverse
  | _, _, .nil => .nil
  | _, _, .cons h t => by
    rw [List.reverse_cons, List.reverse_cons]
    exact (rev2 t).app (.cons h .nil)
theorem gr_below {β : Type} {n : Nat} {ok : β → Nat → Bool} : ∀ (hs : List β) (k : Nat), ∀ a ∈ Ks.gr n ok hs k, a < n
  | [], _, a, h => by cases h
  | g :: hs, k, a, h => by
    cases e : Ks.fst n ok k g with
    | none => rw [gr_cons_none e] at h; cases h
    | some b =>
      rw [gr_cons_some e] at h
      rcases List.mem_cons.mp h with rfl | z
      · exact (Ks.fst_some.mp e).2.1
      · exact gr_below hs (b + 1) a z
theorem LT.rev {K : PySem.W.Frag} {H : Hp} {p : Addr} {its : List V} {ls : List (List Str)} (al : All2 (TupS K H) its ls) (e : H p = some (.tup its.reverse)) : LT K H p ls.reverse := ⟨_, e, rev2 al⟩
section
variable {P : Program} {w : World} {K : PySem.W.Frag} {mg : Str → Option Value} {base : Heap}
theorem pe_revK {X : Cx} {e st : Expr} {te ts : TE} {p3 pos : Pos} (K : PySem.W.Frag) (he : PE X e te) (hs : PE X st ts) (hN : ∀ σ H (Q : VK), Q (.int (-1)) H → ts σ H Q) (hK : X.K = K := by rfl) : PE X (.Subscript e (.Slice none none (some st) p3) pos) (fun σ H Q => te σ H fun x H1 => ∃ a xs, x = .ref a ∧ SqL K H1 a xs ∧ ∀ p, H1 p = none → Q (.ref p) (upd H1 p (.lst xs.reverse))) := by
  subst hK
  exact pe_rev he hs hN
def rLenK (K : PySem.W.Frag) : List V → Hp → VK → Prop := fun xs H Q => ∃ p ys, xs = [V.ref p] ∧ (SqL K H p ys ∨ SqT K H p ys) ∧ Q (V.int (ys.length : Nat)) H
/-! ### last_laying -/
abbrev s_last_laying : Stmt := top 22
theorem sc_last_laying : FnScope ["lots", "heard", "behind", "number"] ["lots", "heard"] (defScope s_last_laying) := ⟨rfl, rfl, rfl, by decide +kernel, rfl, by decide +kernel, by decide +kernel⟩
def spLast (K : PySem.W.Frag) (C R : Addr) : Sp := fun vs H Q E => ∃ (v u : V) (d e : PyData) (ls hs : List (List Str)), vs = [v, u] ∧ TIn K H v u d e ls hs ∧ (firstNo [d, e] = none → stuckN ls hs = none → ∀ p H', Same H H' → H' p = some (.tup ((bkL ls hs).map natV)) → Q (.ref p) H') ∧ Refd K C R E H d e ls hs
theorem ok_last {f C R : Addr} {fd : FuncData} (F : Fun K "last_laying" "last_laying" s_last_laying f fd) (C_need_laying : Cx_ P w K mg base "need_laying" ["lots", "heard"] 6 (spNeedL K C R)) (C_least_laying : Cl P w K mg base "least_laying" ["lots", "heard"] [] 3 (spLay K)) (n_len : mg "len" = none) (n_tuple : mg "tuple" = none) : FnOk P w K mg base (L2.CX P w) 7 f fd ["lots", "heard"] (spLast K C R) := by
  refine F.okX sc_last_laying (fun vs H Q E h => ?_) (fun cdv A outer s H vs Q E hr h => ?_)
  · obtain ⟨_, _, _, _, _, _, rfl, _⟩ := h
    rfl
  · obtain ⟨v, u, d, e, ls, hs, rfl, ti, q, qr, qe⟩ := h
    refine ⟨_, (pss_cons (ps_expr (pe_useX C_need_laying (hr.mono (by decide)) (fun σ => passAt (takes_of rfl rfl rfl rfl) σ) rfl (pa_cons (pv 0) (pa_cons (pv 1) pa_nil))))
      (pss_cons (ps_set (i := 2) sc_last_laying.nd rfl (Or.inl rfl) (pe_use C_least_laying (hr.mono (by decide)) rfl (pa_cons (pe_revT K (pv 0) (pe_un un_neg pe_int) (fun _ _ _ q => ⟨1, rfl, q⟩)) (pa_cons (pe_revT K (pv 1) (pe_un un_neg pe_int) (fun _ _ _ q => ⟨1, rfl, q⟩)) pa_nil))))
      (pss_one (ps_ret (pe_callTy call_tuple_of (by rfl) n_tuple (by decide +kernel) (pa_cons (pe_lc (own := [("number", 3)]) (g := gName 3) rfl sc_last_laying.nd (pi_seq (pe_revK K (pv 2) (pe_un un_neg pe_int) (fun _ _ _ q => ⟨1, rfl, q⟩))) (blkOk_by (N := ["lots", "heard", "behind", "number"]) (sc := defScope s_last_laying) (by decide +kernel)) (fun _ _ _ _ _ => pg_name (i := 3) sc_last_laying.nd rfl (Or.inl rfl)) (fun _ _ _ _ _ => pts_nil) (fun _ _ _ _ _ => pe_op op_sub (pe_op op_sub (pe_callB (r := rLenK K) call_len_seq (by rfl) n_len PySem.boot_len (pa_cons (pv 0) pa_nil)) pe_int) (pv 3))) pa_nil)))))), ?_⟩
    refine ⟨_, rfl, _, rfl, v, u, d, e, ls, hs, rfl, ti, fun no em H1 s1 => ?_, fun m no em dd H1 s1 ed => qr m no em dd H1 s1 ed, fun k hk dd H1 s1 ed => qe k hk dd H1 s1 ed⟩
    have t1 := ti.same s1
    obtain ⟨a, b, rfl, rfl, ⟨aits, ea, ala⟩, ⟨bits, eb, alb⟩⟩ := t1.ok no
    refine ⟨_, rfl, a, aits, rfl, SqT.of ea, fun ra kra => ?_⟩
    have s2 := same_new kra (.tup aits.reverse)
    have era : upd H1 ra (.tup aits.reverse) ra = some (.tup aits.reverse) := upd_same
    generalize upd H1 ra (.tup aits.reverse) = H2 at s2 era ⊢
    refine ⟨_, rfl, b, bits, rfl, SqT.of (s2 _ _ eb), fun rb krb => ?_⟩
    have s3 := same_new krb (.tup bits.reverse)
    have erb : upd H2 rb (.tup bits.reverse) rb = some (.tup bits.reverse) := upd_same
    generalize upd H2 rb (.tup bits.reverse) = H3 at s3 erb ⊢
    have ha3 : LT K H3 ra ls.reverse := LT.rev (ala.imp fun _ _ t => t.fix (Fix.of (s2.trans s3))) (s3 _ _ era)
    have hb3 : LT K H3 rb hs.reverse := LT.rev (alb.imp fun _ _ t => t.fix (Fix.of (s2.trans s3))) erb
    refine ⟨ra, rb, ls.reverse, hs.reverse, rfl, ha3, hb3, by rw [List.length_reverse]; exact t1.ll, by rw [List.length_reverse]; exact t1.lh, fun h hh => t1.l3 h (List.mem_reverse.mp hh), fun g H4 s4 eg => ?_⟩
    have eg : H4 g = some (.lst ((grL ls.reverse hs.reverse).map natV)) := eg
    refine ⟨_, rfl, g, _, rfl, SqL.of eg, fun rg krg => ?_⟩
    have s5 := same_new krg (.lst ((grL ls.reverse hs.reverse).map natV).reverse)
    have erg : upd H4 rg (.lst ((grL ls.reverse hs.reverse).map natV).reverse) rg = some (.lst ((grL ls.reverse hs.reverse).map natV).reverse) := upd_same
    generalize upd H4 rg (.lst ((grL ls.reverse hs.reverse).map natV).reverse) = H5 at s5 erg ⊢
    have s15 := ((s2.trans s3).trans s4).trans s5
    refine ⟨rg, _, rfl, SqX.lst erg, fun J S W z0 D hD => ?_⟩
    have lg : (grL ls.reverse hs.reverse).length ≤ 1000 := Nat.le_trans (Ks.gr_len _ _) (by rw [List.length_reverse]; exact t1.lh)
    refine lc_mf (ds := (grL ls.reverse hs.reverse).reverse) W (fun _ => true) (fun _ y n => y = natV (ls.length - 1 - n)) z0 hD (by simp) (fun i x n H' ex en s m => ?_) (fun H' ys s e al => ?_)
    · rw [← List.map_reverse] at ex
      rw [at_map ex en]
      have nb : n < ls.length := by
        have := gr_below hs.reverse 0 n (List.mem_reverse.mp (at_mem en))
        rwa [List.length_reverse] at this
      have la : aits.length = ls.length := ala.len
      refine ⟨rfl, _, rfl, a, aits, rfl, .inr (SqT.of (s _ _ (s15 _ _ ea))), _, _, rfl, rfl, _, rfl, _, _, rfl, rfl, ?_⟩
      refine mf_yes m hD (fun _ _ _ _ _ h => h) en (by rw [List.length_reverse]; omega) (Same.refl _) rfl ?_
      rw [la]
      show V.int _ = V.int _
      congr 1
      omega
    · rw [Rd.filter_all] at al
      have ey := al.map_eq (f := fun n => natV (ls.length - 1 - n)) fun _ _ h => h
      refine ⟨D, _, rfl, .inl ⟨SqL.of e, fun l hl => q no em l _ ((s1.trans (s15.trans s)).trans (same_new hl _)) ?_⟩⟩
      rw [upd_same, ey, ← bk_rev, List.map_map]
      rfl
end
end K6

namespace K6
open PySem PySem.Spec PyProof.Rows L2 Hb St Sq Ow En Zp RZ Rd Xb
/-- a list of tales' lots -/
def LL (K : PySem.W.Frag) (H : Hp) (a : Addr) (ls : List (List Str)) : Prop := ∃ its, H a = some (.lst its) ∧ All2 (TupS K H) its ls
def TupN (H : Hp) (v : V) (l : List Nat) : Prop := ∃ b, v = .ref b ∧ H b = some (.tup (l.map natV))
theorem cnt_le {β : Type} (ok : β → Nat → Bool) : ∀ (m : Nat) (r : List β), Ks.cnt ok m r ≤ 2 ^ m
  | m, [] => by rw [Ks.cnt_nil]; exact Nat.one_le_two_pow
  | 0, _ :: _ => Nat.zero_le _
  | m + 1, h :: r => by
    have h1 := cnt_le ok m (h :: r)
    have h2 := cnt_le ok m r
    show Ks.cnt ok m (h :: r) + (if ok h m = true then Ks.cnt ok m r else 0) ≤ 2 ^ (m + 1)
    rw [Nat.pow_succ]
    split <;> omega
theorem lays_le {β : Type} (n : Nat) (ok : β → Nat → Bool) (hs : List β) : (Ks.lays n ok hs).length ≤ 2 ^ n := by
  have := Ks.count_all (n := n) (ok := ok) hs.reverse
  rw [List.reverse_reverse] at this
  rw [this]
  exact cnt_le ok n _
section
variable {P : Program} {w : World} {K : PySem.W.Frag} {mg : Str → Option Value} {base : Heap}
theorem inV_nats (x : Nat) (ns : List Nat) : inV (natV x) (ns.map natV) = decide (x ∈ ns) := by
  unfold inV
  rw [List.any_map]
  induction ns with
  | nil => simp
  | cons y r ih =>
    rw [List.any_cons, ih]
    show (eqV (natV y) (natV x) || decide (x ∈ r)) = _
    have e : eqV (natV y) (natV x) = decide (x = y) := by
      show decide (_ = _) = _
      exact decide_eq_decide.mpr ⟨fun h => (Int.ofNat_inj.mp h).symm, fun h => by rw [h]⟩
    rw [e]
    simp [List.mem_cons]
theorem flat_nats (ns : List Nat) : (ns.map natV).all flatV = true := by rw [List.all_map]; exact List.all_eq_true.mpr fun _ _ => rfl
theorem nin_nats {H : Hp} {a : Addr} {ns : List Nat} {x : Nat} {Q : VK} (h : SqX K H a (ns.map natV)) (q : Q (.bl (!decide (x ∈ ns))) H) : rIn K true (natV x) (.ref a) H Q :=
  ⟨a, _, rfl, h, rfl, flat_nats ns, by rw [inV_nats]; exact q⟩
end
end K6

/-! t.index(x), t a tuple of flat values -/
namespace L2
open PySem PySem.Spec PyProof.Rows
section
variable {X : Cx}
def rTIndex (K : PySem.W.Frag) : V → List V → Hp → VK → Prop := fun x xs H Q => ∃ (a : Addr) (ys : List V) (y : V) (j : Nat) (z : V), x = V.ref a ∧ xs = [y] ∧ SqT K H a ys ∧ flatV y = true ∧ ys.all flatV = true ∧ ys[j]? = some z ∧ eqV z y = true ∧
  (∀ (m : Nat) (z' : V), m < j → ys[m]? = some z' → eqV z' y = false) ∧ Q (.int (j : Nat)) H
theorem mt_tindex : MtR X "tuple.index" (rTIndex X.K) := by
  intro pins s σ H x xs v us Q I rx rxs h
  obtain ⟨a, ys, y, j, z, rfl, rfl, hs, fy, fys, hz, hzj, hno, q⟩ := h
  cases rx
  cases rxs with
  | cons ry rt =>
    rename_i uy ut
    cases rt
    obtain ⟨its, rv, ⟨⟨cls, dd, data, sl⟩, ho, hc, n, hd⟩, hlen⟩ := I.tuple hs
    simp only at hc hd
    subst hc hd
    obtain ⟨u, hu, ru⟩ := rv.get hz
    obtain ⟨hjl, hje⟩ := List.getElem?_eq_some_iff.mp hu
    have hvl := rv.length
    have hj : j < its.toArray.size := by simpa using hjl
    refine call_meets PySem.F.slot_tuple_index ⟨_, ho, rfl⟩ PySem.F.entry_tuple_index (PySem.F.args_tuple_index_2 _ _)
      (TI.tuple_indexAt a its.toArray n dd sl uy (eqU y) j hj ?_ ?_) ⟨ho, fun u' hu' => mem_eqAt ry fy rv fys u' (by simpa using hu'), ?_⟩
    · have e1 : its.toArray[j] = u := by simpa using hje
      rw [e1, eqU_of ru (flat_at fys hz)]
      exact hzj
    · intro m hm hmj
      have hml : m < its.length := by simpa using hm
      have hmy : m < ys.length := by omega
      have hy' : ys[m]? = some ys[m] := List.getElem?_eq_getElem hmy
      obtain ⟨u2, hu2, ru2⟩ := rv.get hy'
      obtain ⟨_, hme⟩ := List.getElem?_eq_some_iff.mp hu2
      have e1 : its.toArray[m] = u2 := by simpa using hme
      rw [e1, eqU_of ru2 (flat_at fys hy')]
      exact hno m _ hmj hy'
    · exact ⟨.int (j : Nat), H, I.tok _, ⟨_, rfl⟩, q⟩
variable {o e : Expr} {es : List Expr} {to : TE} {t : TA} {name : Str} {apos cpos : Pos} {id : String} {r : V → List V → Hp → VK → Prop}
/-- a tuple of which it is known that it has no dict -/
def TupZ (H : Hp) (a : Addr) (ys : List V) : Prop := ∃ o : Obj, o.dict = none ∧ H a = some (.frz o (.tup ys))
theorem TupZ.sq {K : PySem.W.Frag} {H : Hp} {a : Addr} {ys : List V} (h : TupZ H a ys) : SqT K H a ys := let ⟨o, _, e⟩ := h; .inl (.inr ⟨o, e⟩)
def tTupF (t : TA) : TE := fun σ H Q => t σ H fun xs H1 => xs.length ≤ sizeLine ∧ ∀ p (o : Obj), H1 p = none → o.dict = none → Q (.ref p) (upd H1 p (.frz o (.tup xs)))
theorem pe_tupF {es : List Expr} {pos : Pos} {x1} (h : PA X es t) : PE X (.Tuple es x1 pos) (tTupF t) := by
  refine ⟨fun pins s σ H Q I hq => ?_⟩
  refine wpAny_Tuple_spliced (thn (h.run pos pins s σ H _ I hq) fun us s1 ⟨xs, H1, I1, r, z, q⟩ => ⟨by rw [← r.length]; exact z, ?_⟩)
  have hf : H1 s1.heap.objs.size = none := I1.hok.fresh (Nat.le_refl _)
  refine ⟨.ref s1.heap.objs.size, upd H1 s1.heap.objs.size (.frz _ (.tup xs)), I1.laid (t' := s1.toks) (fun b u e => Heap.get?_push_of_some _ e) (Nat.le_refl _) ⟨Heap.get?_push_size _ rfl, ?_⟩, rfl, q _ _ hf rfl⟩
  exact ⟨z, us, r, ⟨_, Heap.get?_push_size _ rfl, rfl, _, rfl⟩⟩
/-- t + u, new tuples without a dict -/
def rCatF (K : PySem.W.Frag) : R2 := fun x y H Q => ∃ a b xs ys, x = .ref a ∧ y = .ref b ∧ SqT K H a xs ∧ SqT K H b ys ∧ xs.length + ys.length ≤ sizeLine ∧
  (xs = [] → Q (.ref b) H) ∧ (xs ≠ [] → ys = [] → Q (.ref a) H) ∧ (xs ≠ [] → ys ≠ [] → ∀ p (o : Obj), H p = none → o.dict = none → Q (.ref p) (upd H p (.frz o (.tup (xs ++ ys)))))
theorem op_catF : OpR X (binaryOp .Add) (rCatF X.K) := by
  intro pins s σ H x y v u Q I rx ry h
  obtain ⟨a, b, xs, ys, rfl, rfl, ha, hb, hz, q0, q1, q2⟩ := h
  cases rx
  cases ry
  obtain ⟨its, r1, p1, _⟩ := I.tuple ha
  obtain ⟨its2, r2, p2, _⟩ := I.tuple hb
  by_cases hx : xs = []
  · subst hx
    cases r1
    exact cat_tup0 p1 p2 ⟨.ref b, H, I, rfl, q0 rfl⟩
  · refine HT.cat_tup p1 p2 (fun z => hx (r1.nil_iff.mp z)) (fun z => ⟨.ref a, H, I, rfl, q1 hx (r2.nil_iff.mp z)⟩) (fun z => ?_) (by rw [← r1.length, ← r2.length]; exact hz)
    refine ⟨.ref s.heap.objs.size, _, I.laid (t' := s.toks) (o := .frz _ (.tup (xs ++ ys))) (fun b ob q => Heap.get?_push_of_some _ q) (Nat.le_refl _) ⟨Heap.get?_push_size _ rfl, ?_⟩, rfl, q2 hx (fun w => z (r2.nil_iff.mpr w)) _ _ (I.hok.fresh (Nat.le_refl _)) rfl⟩
    exact ⟨by rw [List.length_append]; exact hz, _, r1.append r2, IsTup.new _ _⟩
/-- a method of a tuple -/
def tBMT (K : PySem.W.Frag) (r : V → List V → Hp → VK → Prop) (to : TE) (t : TA) : TE := fun σ H Q => to σ H fun x H1 => ∃ a ys, x = .ref a ∧ TupZ H1 a ys ∧ t σ H1 fun xs H2 => r x xs H2 Q
theorem pe_bmT (pa : PlainAttrs "tuple") (slot : Slot "tuple" name id) (hty : typeOf (.builtin id) = pure (.type "method_descriptor")) (hm : MtR X id r) (ho : PE X o to) (ha : PA X (e :: es) t)
    (hbase : attributeBase o name X.env (eval o X.env) = eval o X.env := by rfl)
    (hfew : ((backTo cpos (starEach (e :: es) X.env)).all (fun x => !x.1) && (backToKw cpos (keywordEach [] X.env)).all (fun x => x.1.isSome)
      && decide ((e :: es).length + ([] : List Keyword).length + (if ([] : List Keyword).isEmpty then 0 else 1) < 30)) = true := by rfl)
    (hline : (apos.endLine == cpos.line) = true := by rfl) (hs : starEach (e :: es) X.env = (false, eval e X.env) :: starEach es X.env := by rfl) (hplain : (backTo cpos (starEach es X.env)).any (·.1) = false := by rfl) :
    PE X (.Call (.Attribute o name apos) (e :: es) [] cpos) (tBMT X.K r to t) := by
  refine ⟨fun pins s σ H Q I h => ?_⟩
  refine wpAny_Call_method_late hbase hfew hline rfl (thn (ho.run pins s σ H _ I h) fun v s1 ⟨x, H1, I1, r1, a, ys, ex, hq, q1⟩ => ?_)
  subst ex
  obtain rfl : v = Value.ref a := r1
  obtain ⟨ob, hn, hfz⟩ := hq
  obtain ⟨ho1, hob⟩ := (show ObjOk X.prog X.w H1 s1.heap a (.frz ob (.tup ys)) from I1.hok a _ hfz)
  obtain ⟨_, its, rv, ⟨ob2, ho2, hc, _⟩⟩ := hob
  rw [ho1] at ho2
  obtain rfl := Option.some.inj ho2
  refine ⟨"tuple", id, pa, slot, hty, ⟨ob, ho1, hc⟩, fun b e => (by cases e; exact ⟨ob, ho1, hn⟩), ?_⟩
  have hA := ha.run cpos pins s1 σ H1 _ I1 q1
  rw [hs] at hA ⊢
  refine Calls.callWith_builtin (by show (false || (backTo cpos (starEach es X.env)).any (·.1)) = false; rw [hplain] <;> rfl) (Calls.evalArgs_plain ?_)
  exact thn hA fun us s2 ⟨vs, H2, I2, r2, q2⟩ => hm pins s2 σ H2 (.ref a) vs (.ref a) us Q I2 rfl r2 q2
end
end L2

/-! names and data that may be compared by == -/
namespace Da
open PySem PySem.Spec PyProof.Rows L2 Hb St Sq
def IsNm (x : Str) : Prop := 0 < x.length ∧ x.length ≤ 8 ∧ ∀ c ∈ x.cps.toList, 97 ≤ c ∧ c < 123
/-! ### names -/
theorem az_all : ((List.range 26).all fun k => Unicode.isAlpha (97 + k) && Unicode.isLower (97 + k) && !Unicode.isUpper (97 + k) && !Unicode.isTitle (97 + k)) = true := by decide +kernel
theorem az {c : Nat} (h : 97 ≤ c ∧ c < 123) : Unicode.isAlpha c = true ∧ Unicode.isLower c = true ∧ Unicode.isUpper c = false ∧ Unicode.isTitle c = false := by
  have q := List.all_eq_true.mp az_all (c - 97) (List.mem_range.mpr (by omega))
  rw [show 97 + (c - 97) = c by omega] at q
  simp only [Bool.and_eq_true, Bool.not_eq_true'] at q
  exact ⟨q.1.1.1, q.1.1.2, q.1.2, q.2⟩
theorem nm_all {x : Str} (h : IsNm x) {p : Nat → Bool} (k : ∀ c, 97 ≤ c ∧ c < 123 → p c = true) : x.cps.all p = true := by
  rw [Array.all_eq_true_iff_forall_mem]
  exact fun c hc => k c (h.2.2 c (Array.mem_toList_iff.mpr hc))
theorem nm_ascii {x : Str} (h : IsNm x) : Txt.isascii x = true := nm_all h fun c hc => by simp; omega
theorem nm_alpha {x : Str} (h : IsNm x) : Txt.isalpha x = true := by
  unfold Txt.isalpha
  rw [nm_all h fun c hc => (az hc).1, decide_eq_true h.1]; rfl
theorem nm_lower {x : Str} (h : IsNm x) : Txt.islower x = true := by
  unfold Txt.islower
  have h1 : x.cps.any Unicode.isLower = true := by
    rw [Array.any_eq_true]
    have hp : 0 < x.cps.size := h.1
    exact ⟨0, hp, (az (h.2.2 _ (by simp))).2.1⟩
  have h2 : (x.cps.any fun c => Unicode.isUpper c || Unicode.isTitle c) = false := by
    rw [Array.any_eq_false]
    intro i hi
    have := az (h.2.2 x.cps[i] (by simp))
    rw [this.2.2.1, this.2.2.2]; decide
  rw [h1, h2]; rfl
theorem eqv_int (a b : Int) : PyData.eqv (.int a) (.int b) = decide (a = b) := by
  show (a == b) = _
  by_cases h : a = b
  · subst h; simp
  · simp [h]
theorem eqv_str (a b : Str) : PyData.eqv (.str a) (.str b) = decide (a = b) := by
  show (a == b) = _
  by_cases h : a = b
  · subst h; simp
  · rw [decide_eq_false h]; exact beq_eq_false_iff_ne.mpr h
theorem eqvAll_map {α : Type} [DecidableEq α] {f : α → PyData} (h : ∀ a b, PyData.eqv (f a) (f b) = decide (a = b)) : ∀ xs ys : List α, PyData.eqvAll (xs.map f) (ys.map f) = decide (xs = ys)
  | [], [] => rfl
  | [], _ :: _ => rfl
  | _ :: _, [] => rfl
  | x :: xs, y :: ys => by
    show (PyData.eqv (f x) (f y) && PyData.eqvAll (xs.map f) (ys.map f)) = _
    rw [h, eqvAll_map h xs ys, ← Bool.decide_and]
    exact decide_eq_decide.mpr (by rw [List.cons.injEq])
/-- may be compared, no deeper than n -/
def Sh (n : Nat) (d : PyData) : Prop := PyData.canLay0 d = true ∧ PyData.depth d ≤ n
theorem sh_all {α : Type} {f : α → PyData} {n : Nat} : ∀ {l : List α}, (∀ a ∈ l, Sh n (f a)) → PyData.canLayAll0 (l.map f) = true ∧ PyData.depthAll (l.map f) ≤ n
  | [], _ => ⟨rfl, Nat.zero_le _⟩
  | a :: l, h => by
    obtain ⟨h1, h2⟩ := h a List.mem_cons_self
    obtain ⟨k1, k2⟩ := sh_all fun b hb => h b (List.mem_cons_of_mem a hb)
    refine ⟨?_, Nat.max_le.mpr ⟨h2, k2⟩⟩
    show (PyData.canLay0 (f a) && PyData.canLayAll0 (l.map f)) = true
    rw [h1, k1]; rfl
theorem sh_tup {α : Type} {f : α → PyData} {n : Nat} {l : List α} (h : ∀ a ∈ l, Sh n (f a)) : Sh (n + 1) (.tuple (l.map f)) := let ⟨a, b⟩ := sh_all h; ⟨a, Nat.succ_le_succ b⟩
theorem sh_lst {α : Type} {f : α → PyData} {n : Nat} {l : List α} (h : ∀ a ∈ l, Sh n (f a)) : Sh (n + 1) (.list (l.map f)) := let ⟨a, b⟩ := sh_all h; ⟨a, Nat.succ_le_succ b⟩
theorem Sh.ok {n : Nat} {d : PyData} (h : Sh n d) (hn : n ≤ 64) : SeqAt.shaped d = true := by
  unfold SeqAt.shaped
  rw [h.1, decide_eq_true (Nat.le_trans h.2 hn)]; rfl
theorem sh_int (n : Nat) (i : Int) : Sh n (.int i) := ⟨rfl, Nat.zero_le _⟩
theorem sh_str {n : Nat} {x : Str} (h : IsNm x) : Sh n (.str x) := ⟨nm_all h fun c hc => decide_eq_true (by omega), Nat.zero_le _⟩
section
variable {K : PySem.W.Frag} {H : Hp}
theorem dp_strs : ∀ xs : List Str, DpAll K H (xs.map V.str) (xs.map PyData.str)
  | [] => .nil
  | x :: xs => .cons (.str x) (dp_strs xs)
theorem dp_intl : ∀ xs : List Int, DpAll K H (xs.map V.int) (xs.map PyData.int)
  | [] => .nil
  | x :: xs => .cons (.int x) (dp_intl xs)
theorem dp_all {α : Type} {R : V → α → Prop} {f : α → PyData} (h : ∀ v a, R v a → Dp K H v (f a)) : ∀ {vs : List V} {ds : List α}, All2 R vs ds → DpAll K H vs (ds.map f)
  | _, _, .nil => .nil
  | _, _, .cons r t => .cons (h _ _ r) (dp_all h t)
end
end Da

namespace K6
open PySem PySem.Spec PyProof.Rows L2 Hb St Sq Ow En Zp RZ Rd Xb Da
theorem range_from (n lo : Nat) (q : Nat → Bool) : ((List.range n).filter fun a => decide (lo ≤ a) && q a) = ((List.range (n - lo)).map (lo + ·)).filter q := by
  by_cases c : lo ≤ n
  · obtain ⟨d, rfl⟩ : ∃ d, n = lo + d := ⟨n - lo, by omega⟩
    rw [List.range_add, List.filter_append, show lo + d - lo = d by omega]
    have z : (List.range lo).filter (fun a => decide (lo ≤ a) && q a) = [] := by
      rw [List.filter_eq_nil_iff]
      intro a ha
      have := List.mem_range.mp ha
      rw [decide_eq_false (by omega)]; simp
    rw [z, List.nil_append]
    refine List.filter_congr fun a ha => ?_
    obtain ⟨b, _, rfl⟩ := List.mem_map.mp ha
    rw [decide_eq_true (by omega)]; rfl
  · rw [show n - lo = 0 by omega]
    show _ = []
    rw [List.filter_eq_nil_iff]
    intro a ha
    have := List.mem_range.mp ha
    rw [decide_eq_false (by omega)]; simp
theorem miss_prt (h l : List Str) : decide ((h.filter fun x => !decide (x ∈ l)) = []) = prt h l := by
  unfold prt
  rw [Bool.eq_iff_iff, decide_eq_true_iff, List.filter_eq_nil_iff, List.all_eq_true]
  exact ⟨fun z x hx => by have := z x hx; simpa using this, fun z x hx => by have := z x hx; simpa using this⟩
theorem nin_strs {K : PySem.W.Frag} {H : Hp} {a : Addr} {ns : List Str} {x : Str} {Q : VK} (h : SqX K H a (ns.map V.str)) (q : Q (.bl (!decide (x ∈ ns))) H) : rIn K true (.str x) (.ref a) H Q :=
  ⟨a, _, rfl, h, rfl, flat_strs ns, by rw [inV_strs]; exact q⟩
def TupF (H : Hp) (v : V) (l : List Nat) : Prop := ∃ b, v = .ref b ∧ TupZ H b (l.map natV)
theorem not_mut_frz (o : Obj) (xs : List V) : ¬ Mut (.frz o (.tup xs)) := by
  rintro (⟨_, e⟩ | ⟨_, e⟩) <;> cases e
theorem TupF.same {H H' : Hp} {v : V} {l : List Nat} (h : TupF H v l) (s : Fix H H') : TupF H' v l := let ⟨b, e, o, n, t⟩ := h; ⟨b, e, o, n, s _ _ t (not_mut_frz _ _)⟩
theorem TupN.same {H H' : Hp} {v : V} {l : List Nat} (h : TupN H v l) (s : Fix H H') : TupN H' v l := let ⟨b, e, t⟩ := h; ⟨b, e, s _ _ t (not_mut_tup _)⟩
theorem LL.same {K : PySem.W.Frag} {H H' : Hp} {a : Addr} {ls : List (List Str)} (h : LL K H a ls) (s : Same H H') : LL K H' a ls :=
  let ⟨its, e, al⟩ := h; ⟨its, s _ _ e, al.imp fun _ _ t => t.fix (Fix.of s)⟩
theorem flat_len {α β : Type} (g : α → List β) (n : Nat) (h : ∀ a, (g a).length ≤ n) : ∀ l : List α, (l.flatMap g).length ≤ n * l.length
  | [] => Nat.zero_le _
  | a :: l => by
    have := flat_len g n h l
    have := h a
    rw [List.flatMap_cons, List.length_append, List.length_cons, Nat.mul_succ]; omega
theorem ext_len {β : Type} (n : Nat) (ok : β → Nat → Bool) (h : β) (laid : List Nat) : (Ks.ext n ok h laid).length ≤ n := by
  unfold Ks.ext
  rw [List.length_map]
  exact Nat.le_trans (List.length_filter_le _ _) (by rw [List.length_range]; exact Nat.le_refl _)
theorem asc_len : ∀ (k : Nat) (l : List Nat), l.length = k → l.Pairwise (· < ·) → k ≤ Ks.nxt l
  | 0, _, _, _ => Nat.zero_le _
  | k + 1, l, e, h => by
    rcases List.eq_nil_or_concat l with rfl | ⟨l', b, rfl⟩
    · cases e
    · rw [List.concat_eq_append] at *
      rw [Ks.nxt_snoc]
      rw [List.length_append] at e
      have e : l'.length + 1 = k + 1 := e
      obtain ⟨h1, _, h3⟩ := List.pairwise_append.mp h
      have ih := asc_len k l' (by omega) h1
      have := (Ks.nxt_le h1 (m := b)).mpr fun a ha => h3 a ha b (List.mem_singleton.mpr rfl)
      omega
theorem dp_nats {K : PySem.W.Frag} {H : Hp} : ∀ xs : List Nat, DpAll K H (xs.map natV) (xs.map fun i => PyData.int (i : Nat))
  | [] => .nil
  | x :: xs => .cons (.int (x : Nat)) (dp_nats xs)
theorem sh_nats (xs : List Nat) : Sh 1 (.tuple (xs.map fun i => PyData.int (i : Nat))) := sh_tup fun a _ => sh_int 0 _
theorem eqv_nats (xs ys : List Nat) : PyData.eqv (.tuple (xs.map fun i => PyData.int (i : Nat))) (.tuple (ys.map fun i => PyData.int (i : Nat))) = decide (xs = ys) :=
  eqvAll_map (fun a b => by rw [eqv_int]; exact decide_eq_decide.mpr Int.ofNat_inj) xs ys
theorem cut_take {xs : List V} {n : Nat} : cutV xs none (some (n : Nat)) = xs.take n := by
  unfold cutV
  rw [HT.sIx_none, HT.sIx_nat, List.drop_zero, Nat.sub_zero, List.take_eq_take_iff]
  omega
def dL (L : List (List Nat)) : PyData := .list (L.map fun l => .tuple (l.map fun i => .int (i : Nat)))
theorem dL_dp {K : PySem.W.Frag} {H : Hp} {p : Addr} {its : List V} {L : List (List Nat)} (e : H p = some (.lst its)) (al : All2 (TupF H) its L) : Dp K H (.ref p) (dL L) :=
  .lst (SqL.of e) (dp_all (f := fun l : List Nat => .tuple (l.map fun i => .int (i : Nat))) (fun v l ⟨b, eb, hb⟩ => by rw [eb]; exact .tup hb.sq (dp_nats l)) al)
theorem dL_sh (L : List (List Nat)) : Sh 2 (dL L) := sh_lst fun l _ => sh_nats l
theorem dL_eq (L : List (List Nat)) : PyData.eqv (dL L) (.list []) = decide (L = []) := eqvAll_map eqv_nats L []
section
variable {P : Program} {w : World} {K : PySem.W.Frag} {mg : Str → Option Value} {base : Heap}
/-! ### _law_layings -/
abbrev s__law_layings : Stmt := top 38
theorem sc__law_layings : FnScope ["lots", "heard", "found", "names", "later", "laid", "at", "name"] ["lots", "heard"] (defScope s__law_layings) := ⟨rfl, rfl, rfl, by decide +kernel, rfl, by decide +kernel, by decide +kernel⟩
def laysL (ls hs : List (List Str)) : List (List Nat) := Ks.lays ls.length (okL ls) hs
def spLLay (K : PySem.W.Frag) : Sp := fun vs H Q _ => ∃ (a b : Addr) (ls hs : List (List Str)), vs = [.ref a, .ref b] ∧ LL K H a ls ∧ LL K H b hs ∧ ls.length ≤ 7 ∧ (∀ h ∈ hs, h.length ≤ 1000 ∧ ∀ x ∈ h, IsNm x) ∧
  ∀ p its H', Same H H' → H' p = some (.lst its) → All2 (TupF H') its (laysL ls hs) → Q (.ref p) H'
theorem ok_llay {f : Addr} {fd : FuncData} (F : Fun K "_law_layings" "_law_layings" s__law_layings f fd) (n_len : mg "len" = none) (n_range : mg "range" = none) : FnOk P w K mg base CX0 1 f fd ["lots", "heard"] (spLLay K) := by
  refine F.ok sc__law_layings (fun vs H Q E h => ?_) (fun cdv A outer s H vs Q E hr h => ?_)
  · obtain ⟨_, _, _, _, rfl, _⟩ := h
    rfl
  · obtain ⟨a, b, ls, hs, rfl, ha, hb, l1, l3, q⟩ := h
    refine ⟨_, (pss_cons (ps_set (i := 2) sc__law_layings.nd rfl (Or.inl rfl) (pe_lst (pa_cons (pe_tupF pa_nil) pa_nil)))
    (Evl.pss_cut (ps_for PassesOwn.never rfl (pi_seq (pv 1)) (pg_name (i := 3) sc__law_layings.nd rfl (Or.inl rfl))
      (pss_cons (ps_set (i := 4) sc__law_layings.nd rfl (Or.inl rfl) (pe_lst pa_nil))
    (Evl.pss_cut (ps_for PassesOwn.never rfl (pi_seq (pv 2)) (pg_name (i := 5) sc__law_layings.nd rfl (Or.inl rfl))
      (pss_one (ps_for PassesOwn.never rfl (pi_range2 (by rfl) n_range (pa_cons (pe_ifExp (pt_cmpR (op_neD hr.units) (pv 5) (pe_tup pa_nil) (nomark _)) (pe_op op_add (pe_ix ix_tup (pv 5) (pe_un un_neg pe_int) (fun _ _ => rfl)) pe_int) pe_int) (pa_cons (pe_callB call_len_seq (by rfl) n_len PySem.boot_len (pa_cons (pv 0) pa_nil)) pa_nil))) (pg_name (i := 6) sc__law_layings.nd rfl (Or.inr rfl))
      (pss_one (ps_if (pt_cmpR (op_eqD hr.units) (pe_lc (own := [("name", 7)]) (g := gName 7) rfl sc__law_layings.nd (pi_seq (pv 3)) (blkOk_by (N := ["lots", "heard", "found", "names", "later", "laid", "at", "name"]) (sc := defScope s__law_layings) (by decide +kernel)) (fun _ _ _ _ _ => pg_name (i := 7) sc__law_layings.nd rfl (Or.inl rfl)) (fun _ _ _ _ _ => pts_one (pt_cmpR (r := rIn K true) op_notIn_seq (pv 7) (pe_ix (r := rIxL K) ix_list (pv 0) (pv 6) (fun _ _ => rfl)) rfl)) (fun _ _ _ _ _ => pv 7)) (pe_lst pa_nil) (nomark _)) (pss_one (ps_expr (pe_bm PySem.F.plainAttrs_list PySem.F.slot_list_append PySem.F.type_list_append mt_append (pv 4) (pa_cons (pe_op op_catF (pv 5) (pe_tupF (pa_cons (pv 6) pa_nil))) pa_nil)))) pss_nil)))))
    (pss_one (ps_set (i := 2) sc__law_layings.nd rfl (Or.inl rfl) (pv 4))))))
    (pss_one (ps_ret (pv 2))))), ?_⟩
    refine ⟨by show 0 ≤ sizeLine; decide, fun t0 o0 k0 n0 => ⟨by show 1 ≤ sizeLine; decide, fun f0 kf0 => ?_⟩⟩
    have a0 := same_new k0 (.frz o0 (.tup []))
    have a1 := same_new kf0 (.lst [.ref t0])
    have et0 := a1 _ _ (show (upd H t0 (.frz o0 (.tup []))) t0 = _ from upd_same)
    have ef0 : upd (upd H t0 (.frz o0 (.tup []))) f0 (.lst [.ref t0]) f0 = some (.lst [.ref t0]) := upd_same
    have s0 : Same H (upd (upd H t0 (.frz o0 (.tup []))) f0 (.lst [.ref t0])) := a0.trans a1
    generalize upd (upd H t0 (.frz o0 (.tup []))) f0 (.lst [.ref t0]) = H0 at et0 ef0 s0 ⊢
    let n := ls.length
    let ok := okL ls
    let St : Addr → L2.St → Prop := fun fp σ => ∃ o3 o4 o5 o6 o7, σ = [some (.ref a), some (.ref b), some (.ref fp), o3, o4, o5, o6, o7]
    refine ⟨fun σ H' => ∃ fp its, St fp σ ∧ Same H H' ∧ H' fp = some (.lst its) ∧ All2 (TupF H') its (laysL ls hs), ?_, ?_⟩
    · have hb0 := hb.same s0
      obtain ⟨bits, eb, alb⟩ := hb0
      refine ⟨_, rfl, b, _, rfl, SqX.lst eb, fun J S W z0 => ?_⟩
      refine for_sq W (fun j σ H' => ∃ fp its, St fp σ ∧ Same H0 H' ∧ H' fp = some (.lst its) ∧ All2 (TupF H') its (Ks.lays n ok (hs.take j))) ⟨f0, [.ref t0], ⟨none, none, none, none, none, rfl⟩, Same.refl _, ef0, .cons ⟨t0, rfl, o0, n0, et0⟩ .nil⟩ (fun j σ H' pv => W.keep (fun o e => let ⟨_, _, _, s, _⟩ := pv; s _ _ e) z0) ?_ ?_
      · rintro j σ H1 y ey ⟨fp, its, ⟨o3, o4, o5, o6, o7, rfl⟩, s1, ef, alf⟩
        obtain ⟨h, eh, hy⟩ := alb.get ey
        have hs1 : Ks.lays n ok (hs.take (j + 1)) = (Ks.lays n ok (hs.take j)).flatMap (Ks.ext n ok h) := by rw [List.take_add_one, eh]; exact Ks.lays_snoc _ _
        refine ⟨by show 0 ≤ sizeLine; decide, fun lp klp => ?_⟩
        have s2 := same_new klp (.lst [])
        have el : upd H1 lp (.lst []) lp = some (.lst []) := upd_same
        have kin : ∀ H', Kept lp (upd H1 lp (.lst [])) H' → Same H1 H' := fun H' k x o e => k x o (s2 _ _ e) (ne_of_none e klp)
        generalize upd H1 lp (.lst []) = H2 at s2 el kin ⊢
        have nfl : fp ≠ lp := ne_of_none ef klp
        let F := Ks.lays n ok (hs.take j)
        let σM : Option V → Option V → Option V → L2.St := fun o5 o6 o7 => [some (.ref a), some (.ref b), some (.ref fp), some y, some (.ref lp), o5, o6, o7]
        have F7 : F.length ≤ 128 := Nat.le_trans (lays_le n ok _) (by have : 2 ^ n ≤ 2 ^ 7 := Nat.pow_le_pow_right (by decide) l1; omega)
        refine ⟨fun σ H' => ∃ jts o5 o6 o7, σ = σM o5 o6 o7 ∧ Kept lp H2 H' ∧ H' lp = some (.lst jts) ∧ All2 (TupF H') jts (Ks.lays n ok (hs.take (j + 1))), ?_, ?_⟩
        · refine ⟨_, rfl, fp, its, rfl, SqX.lst (s2 _ _ ef), fun J2 S2 W2 z2 => ?_⟩
          refine for_sq W2 (fun i σ H' => ∃ jts o5 o6 o7, σ = σM o5 o6 o7 ∧ Kept lp H2 H' ∧ H' lp = some (.lst jts) ∧ All2 (TupF H') jts ((F.take i).flatMap (Ks.ext n ok h))) ⟨[], o5, o6, o7, rfl, Kept.refl _ _, el, .nil⟩ (fun i σ H' pv => W2.keep (fun o e => let ⟨_, _, _, _, _, k, _⟩ := pv; k _ _ e nfl) z2) ?_ ?_
          · rintro i σ H3 x ex ⟨jts, o5, o6, o7, rfl, k3, e3, al3⟩
            obtain ⟨laid, elaid, tb, rfl, ob, nob, htb⟩ := alf.get ex
            have fx : Fix H1 H3 := (Fix.of s2).trans (Fix.kept el k3)
            have htb3 : H3 tb = some (.frz ob (.tup (laid.map natV))) := fx _ _ htb (not_mut_frz _ _)
            refine ⟨_, rfl, by show 0 ≤ sizeLine; decide, fun t5 k5 => ?_⟩
            have s4 := same_new k5 (.tup [])
            have et5 : upd H3 t5 (.tup []) t5 = some (.tup []) := upd_same
            generalize upd H3 t5 (.tup []) = H4 at s4 et5 ⊢
            refine ⟨.tuple (laid.map fun i => .int (i : Nat)), .tuple [], .tup ((TupZ.sq ⟨ob, nob, s4 _ _ htb3⟩)) (dp_nats laid), .tup (SqT.of et5) .nil, (sh_nats laid).ok (by decide), by decide, _, rfl, ?_⟩
            rw [show PyData.eqv (.tuple (laid.map fun i => .int (i : Nat))) (.tuple []) = decide (laid = []) from eqv_nats laid []]
            obtain ⟨aits, ea, ala⟩ := (ha.same s0).same s1
            have fx4 : Fix H1 H4 := fx.trans (Fix.of s4)
            have nal : a ≠ lp := ne_of_none ea klp
            have ea4 : H4 a = some (.lst aits) := s4 _ _ (k3 _ _ (s2 _ _ ea) nal)
            have la : aits.length = n := ala.len
            have isl : Ks.IsLay n ok (hs.take j) laid := Ks.mem_lay.mp (at_mem elaid)
            have nx : Ks.nxt laid ≤ n := (Ks.nxt_le isl.asc).mpr isl.below
            obtain ⟨lo, hlo⟩ : ∃ lo, Ks.nxt laid = lo := ⟨_, rfl⟩
            obtain ⟨hb', ehb, hhb⟩ := id hy
            subst ehb
            have hh4 : SqT K H4 hb' (h.map V.str) := tupFix ((Fix.of s1).trans fx4) hhb
            have dn : ((((aits.length : Nat) : Int) - ((lo : Nat) : Int)).toNat) = n - lo := by rw [la]; omega
            have enc : (F.take (i + 1)).flatMap (Ks.ext n ok h) = (F.take i).flatMap (Ks.ext n ok h) ++ Ks.ext n ok h laid := by
              rw [List.take_add_one, elaid, List.flatMap_append]
              show _ = _ ++ (Ks.ext n ok h laid)
              congr 1
              exact List.append_nil _
            have eext : Ks.ext n ok h laid = (((List.range (n - lo)).map (lo + ·)).filter (ok h)).map fun a => laid ++ [a] := by
              unfold Ks.ext
              rw [hlo, range_from n lo (ok h)]
            have pre : ((F.take i).flatMap (Ks.ext n ok h)).length ≤ 896 := by
              have := flat_len (Ks.ext n ok h) 7 (fun l => Nat.le_trans (ext_len n ok h l) l1) (F.take i)
              rw [List.length_take] at this
              omega
            have al4 : All2 (TupF H4) jts ((F.take i).flatMap (Ks.ext n ok h)) := al3.imp fun _ _ t => t.same (Fix.of s4)
            have k4 : Kept lp H2 H4 := k3.trans fun b o e _ => s4 b o e
            have e4 := s4 _ _ e3
            have lay3 := l3 h (at_mem eh)
            have lenl : laid.length ≤ 7 := by
              have := asc_len _ laid rfl isl.asc
              omega
            by_cases c : laid = []
            · have z0 : lo = 0 := by rw [← hlo, c]; rfl
              rw [decide_eq_true c]
              refine iteF ⟨_, rfl, a, aits, rfl, .inl (SqL.of ea4), ((lo : Nat) : Int), _, by rw [z0]; rfl, ⟨by omega, by omega, by omega, by omega⟩, ?_⟩
              rw [dn]
              refine for_sq (wk_range (a := lp)) (fun i2 σ H' => ∃ jts2 o6 o7, σ = σM (some (.ref tb)) o6 o7 ∧ Kept lp H2 H' ∧ H' lp = some (.lst jts2) ∧ All2 (TupF H') jts2 ((F.take i).flatMap (Ks.ext n ok h) ++ (((List.range i2).map (lo + ·)).filter (ok h)).map fun a => laid ++ [a])) ⟨jts, o6, o7, rfl, k4, e4, by rw [List.range_zero]; simpa using al4⟩ (fun _ _ _ _ => trivial) ?_ ?_
              · rintro i2 σ H5 x ex ⟨jts2, o6, o7, rfl, k5, e5, al5⟩
                have hi2 : i2 < n - lo := by
                  have := (List.getElem?_eq_some_iff.mp ex).1
                  rwa [List.length_map, List.length_range] at this
                have exv : x = natV (lo + i2) := by
                  rw [List.getElem?_map, List.getElem?_range hi2] at ex
                  have := Option.some.inj ex
                  rw [← this]; rfl
                subst exv
                have fx5 : Fix H1 H5 := (Fix.of s2).trans (Fix.kept el k5)
                have hh5 : SqT K H5 hb' (h.map V.str) := tupFix ((Fix.of s1).trans fx5) hhb
                have ea5 : H5 a = some (.lst aits) := k5 _ _ (s2 _ _ ea) nal
                have htb5 : H5 tb = some (.frz ob (.tup (laid.map natV))) := fx5 _ _ htb (not_mut_frz _ _)
                obtain ⟨l, ell⟩ : ∃ l, ls[lo + i2]? = some l := ⟨_, List.getElem?_eq_getElem (show lo + i2 < ls.length by have : n = ls.length := rfl; omega)⟩
                obtain ⟨zz, ezz, lb, rfl, hlb⟩ := ala.getR ell
                have hlb5 : SqT K H5 lb (l.map V.str) := tupFix fx5 hlb
                have eok : prt h l = ok h (lo + i2) := by show _ = prt h (ls.getD (lo + i2) []); rw [List.getD_eq_getElem?_getD, ell]; rfl
                have grow : (((List.range (i2 + 1)).map (lo + ·)).filter (ok h)).map (fun a => laid ++ [a]) = (((List.range i2).map (lo + ·)).filter (ok h)).map (fun a => laid ++ [a]) ++ (if ok h (lo + i2) = true then [laid ++ [lo + i2]] else []) := by
                  rw [List.range_succ, List.map_append, List.filter_append, List.map_append]
                  congr 1
                  show List.map _ (List.filter (ok h) [lo + i2]) = _
                  by_cases cq : ok h (lo + i2) = true
                  · rw [if_pos cq, List.filter_cons_of_pos cq]; rfl
                  · rw [if_neg cq, List.filter_cons_of_neg cq]; rfl
                refine ⟨_, rfl, hb', _, rfl, .inr hh5, fun J3 S3 W3 z3 D hD => ?_⟩
                refine lc_mf (ds := h) W3 (fun x => !decide (x ∈ l)) (fun _ y x => y = .str x) z3 hD (by simp) (fun i3 x3 d3 H' ex3 ed3 s m => ?_) (fun H6 ys s6 e6 al6 => ?_)
                · rw [at_map ex3 ed3]
                  refine ⟨rfl, _, rfl, _, rfl, _, rfl, a, aits, ((lo + i2 : Nat) : Int), .ref lb, rfl, rfl, SqL.of (s _ _ ea5), atI_nat ezz, nin_strs (.inr (tupFix (Fix.of s) hlb5)) ⟨_, rfl, ?_⟩⟩
                  cases cc : !decide (d3 ∈ l) with
                  | true => exact iteT ⟨_, rfl, mf_yes m hD (fun _ _ _ _ _ h => h) ed3 (by omega) (Same.refl _) cc rfl⟩
                  | false => exact iteF (mf_no m (fun _ _ _ _ _ h => h) ed3 (Same.refl _) cc)
                have ey6 := al6.map_eq (f := V.str) fun _ _ h => h
                rw [ey6] at e6
                refine ⟨by show 0 ≤ sizeLine; decide, fun t6 k6 => ?_⟩
                have s7 := same_new k6 (.lst [])
                have e7 := s7 _ _ e6
                have et6 : upd H6 t6 (.lst []) t6 = some (.lst []) := upd_same
                generalize upd H6 t6 (.lst []) = H7 at s7 e7 et6 ⊢
                have s57 := s6.trans s7
                refine ⟨.list ((h.filter fun x => !decide (x ∈ l)).map .str), .list [], .lst (SqL.of e7) (dp_strs _), .lst (SqL.of et6) .nil, (sh_lst (n := 0) fun x hx => sh_str (lay3.2 x (List.mem_filter.mp hx).1)).ok (by decide), by decide, _, rfl, ?_⟩
                rw [show PyData.eqv (.list ((h.filter fun x => !decide (x ∈ l)).map .str)) (.list []) = decide ((h.filter fun x => !decide (x ∈ l)) = []) from eqvAll_map eqv_str _ [], miss_prt, eok]
                have k7 : Kept lp H2 H7 := k5.trans fun b o e _ => s57 b o e
                have el7 := s57 _ _ e5
                have pl : (((List.range i2).map (lo + ·)).filter (ok h)).length ≤ 7 := Nat.le_trans (List.length_filter_le _ _) (by rw [List.length_map, List.length_range]; omega)
                have lj : jts2.length ≤ 903 := by
                  rw [al5.len, List.length_append, List.length_map]; omega
                by_cases cq : ok h (lo + i2) = true
                · rw [if_pos cq] at grow
                  rw [cq]
                  refine iteT ⟨_, rfl, .inl ⟨rfl, _, SqL.of el7⟩, _, rfl, _, rfl, by show 1 ≤ sizeLine; decide, fun t8 o8 k8 n8 => ?_⟩
                  have s8 := same_new k8 (.frz o8 (.tup [natV (lo + i2)]))
                  have et8 : upd H7 t8 (.frz o8 (.tup [natV (lo + i2)])) t8 = some (.frz o8 (.tup [natV (lo + i2)])) := upd_same
                  generalize upd H7 t8 (.frz o8 (.tup [natV (lo + i2)])) = H8 at s8 et8 ⊢
                  have htb8 := s8 _ _ (s57 _ _ htb5)
                  refine ⟨tb, t8, laid.map natV, [natV (lo + i2)], rfl, rfl, TupZ.sq ⟨ob, nob, htb8⟩, TupZ.sq ⟨o8, n8, et8⟩, by rw [List.length_map, sizeLine_eq]; show _ + 1 ≤ _; omega, fun e => ?_, fun _ e => by (cases e), fun ne _ p o9 kp n9 => ?_⟩
                  · have el0 : laid = [] := List.map_eq_nil_iff.mp e
                    have el8 := s8 _ _ el7
                    refine ⟨lp, jts2, .ref t8, rfl, rfl, el8, by rw [sizeLine_eq]; omega, jts2 ++ [.ref t8], some (natV (lo + i2)), o7, rfl, ?_, upd_same, ?_⟩
                    · exact fun b o e nb => by rw [upd_ne nb]; exact s8 _ _ (k7 b o e nb)
                    · rw [grow, ← List.append_assoc]
                      have fxe : Fix H5 (upd H8 lp (.lst (jts2 ++ [.ref t8]))) := (Fix.of (s57.trans s8)).trans (Fix.lst el8)
                      refine (al5.imp fun _ _ t => t.same fxe).app (.cons ⟨t8, rfl, o8, n8, ?_⟩ .nil)
                      rw [el0]
                      exact Fix.lst el8 _ _ et8 (not_mut_frz _ _)
                  · have s9 := same_new kp (.frz o9 (.tup (laid.map natV ++ [natV (lo + i2)])))
                    have ep9 : upd H8 p (.frz o9 (.tup (laid.map natV ++ [natV (lo + i2)]))) p = some (.frz o9 (.tup (laid.map natV ++ [natV (lo + i2)]))) := upd_same
                    generalize upd H8 p (.frz o9 (.tup (laid.map natV ++ [natV (lo + i2)]))) = H9 at s9 ep9 ⊢
                    have el9 := s9 _ _ (s8 _ _ el7)
                    refine ⟨lp, jts2, .ref p, rfl, rfl, el9, by rw [sizeLine_eq]; omega, jts2 ++ [.ref p], some (natV (lo + i2)), o7, rfl, ?_, upd_same, ?_⟩
                    · exact fun b o e nb => by rw [upd_ne nb]; exact s9 _ _ (s8 _ _ (k7 b o e nb))
                    · rw [grow, ← List.append_assoc]
                      have fxe : Fix H5 (upd H9 lp (.lst (jts2 ++ [.ref p]))) := (Fix.of ((s57.trans s8).trans s9)).trans (Fix.lst el9)
                      refine (al5.imp fun _ _ t => t.same fxe).app (.cons ⟨p, rfl, o9, n9, ?_⟩ .nil)
                      have := Fix.lst (o := .lst (jts2 ++ [.ref p])) el9 _ _ ep9 (not_mut_frz _ _)
                      rw [List.map_append]
                      exact this
                · rw [if_neg cq, List.append_nil] at grow
                  rw [Bool.eq_false_iff.mpr cq]
                  refine iteF ⟨jts2, some (natV (lo + i2)), o7, rfl, k7, el7, ?_⟩
                  rw [grow]
                  exact al5.imp fun _ _ t => t.same (Fix.of s57)
              · rintro σ H5 ⟨jts2, o6, o7, rfl, k5, e5, al5⟩
                refine ⟨jts2, _, o6, o7, rfl, k5, e5, ?_⟩
                rw [List.length_map, List.length_range, ← eext, ← enc] at al5
                exact al5
            · obtain ⟨l', z, ez⟩ : ∃ l' z, laid = l' ++ [z] := ⟨laid.dropLast, laid.getLast c, (List.dropLast_concat_getLast c).symm⟩
              have z0 : ((lo : Nat) : Int) = ((z : Nat) : Int) + 1 := by rw [← hlo, ez, Ks.nxt_snoc]; rfl
              rw [decide_eq_false c]
              refine iteT ⟨_, rfl, 1, rfl, tb, _, -1, natV z, rfl, rfl, (TupZ.sq ⟨ob, nob, s4 _ _ htb3⟩), by rw [ez, List.map_append]; exact at_last, ?_⟩
              refine ⟨_, _, rfl, rfl, _, rfl, a, aits, rfl, .inl (SqL.of ea4), ((lo : Nat) : Int), _, by rw [z0], ⟨by omega, by omega, by omega, by omega⟩, ?_⟩
              rw [dn]
              refine for_sq (wk_range (a := lp)) (fun i2 σ H' => ∃ jts2 o6 o7, σ = σM (some (.ref tb)) o6 o7 ∧ Kept lp H2 H' ∧ H' lp = some (.lst jts2) ∧ All2 (TupF H') jts2 ((F.take i).flatMap (Ks.ext n ok h) ++ (((List.range i2).map (lo + ·)).filter (ok h)).map fun a => laid ++ [a])) ⟨jts, o6, o7, rfl, k4, e4, by rw [List.range_zero]; simpa using al4⟩ (fun _ _ _ _ => trivial) ?_ ?_
              · rintro i2 σ H5 x ex ⟨jts2, o6, o7, rfl, k5, e5, al5⟩
                have hi2 : i2 < n - lo := by
                  have := (List.getElem?_eq_some_iff.mp ex).1
                  rwa [List.length_map, List.length_range] at this
                have exv : x = natV (lo + i2) := by
                  rw [List.getElem?_map, List.getElem?_range hi2] at ex
                  have := Option.some.inj ex
                  rw [← this]; rfl
                subst exv
                have fx5 : Fix H1 H5 := (Fix.of s2).trans (Fix.kept el k5)
                have hh5 : SqT K H5 hb' (h.map V.str) := tupFix ((Fix.of s1).trans fx5) hhb
                have ea5 : H5 a = some (.lst aits) := k5 _ _ (s2 _ _ ea) nal
                have htb5 : H5 tb = some (.frz ob (.tup (laid.map natV))) := fx5 _ _ htb (not_mut_frz _ _)
                obtain ⟨l, ell⟩ : ∃ l, ls[lo + i2]? = some l := ⟨_, List.getElem?_eq_getElem (show lo + i2 < ls.length by have : n = ls.length := rfl; omega)⟩
                obtain ⟨zz, ezz, lb, rfl, hlb⟩ := ala.getR ell
                have hlb5 : SqT K H5 lb (l.map V.str) := tupFix fx5 hlb
                have eok : prt h l = ok h (lo + i2) := by show _ = prt h (ls.getD (lo + i2) []); rw [List.getD_eq_getElem?_getD, ell]; rfl
                have grow : (((List.range (i2 + 1)).map (lo + ·)).filter (ok h)).map (fun a => laid ++ [a]) = (((List.range i2).map (lo + ·)).filter (ok h)).map (fun a => laid ++ [a]) ++ (if ok h (lo + i2) = true then [laid ++ [lo + i2]] else []) := by
                  rw [List.range_succ, List.map_append, List.filter_append, List.map_append]
                  congr 1
                  show List.map _ (List.filter (ok h) [lo + i2]) = _
                  by_cases cq : ok h (lo + i2) = true
                  · rw [if_pos cq, List.filter_cons_of_pos cq]; rfl
                  · rw [if_neg cq, List.filter_cons_of_neg cq]; rfl
                refine ⟨_, rfl, hb', _, rfl, .inr hh5, fun J3 S3 W3 z3 D hD => ?_⟩
                refine lc_mf (ds := h) W3 (fun x => !decide (x ∈ l)) (fun _ y x => y = .str x) z3 hD (by simp) (fun i3 x3 d3 H' ex3 ed3 s m => ?_) (fun H6 ys s6 e6 al6 => ?_)
                · rw [at_map ex3 ed3]
                  refine ⟨rfl, _, rfl, _, rfl, _, rfl, a, aits, ((lo + i2 : Nat) : Int), .ref lb, rfl, rfl, SqL.of (s _ _ ea5), atI_nat ezz, nin_strs (.inr (tupFix (Fix.of s) hlb5)) ⟨_, rfl, ?_⟩⟩
                  cases cc : !decide (d3 ∈ l) with
                  | true => exact iteT ⟨_, rfl, mf_yes m hD (fun _ _ _ _ _ h => h) ed3 (by omega) (Same.refl _) cc rfl⟩
                  | false => exact iteF (mf_no m (fun _ _ _ _ _ h => h) ed3 (Same.refl _) cc)
                have ey6 := al6.map_eq (f := V.str) fun _ _ h => h
                rw [ey6] at e6
                refine ⟨by show 0 ≤ sizeLine; decide, fun t6 k6 => ?_⟩
                have s7 := same_new k6 (.lst [])
                have e7 := s7 _ _ e6
                have et6 : upd H6 t6 (.lst []) t6 = some (.lst []) := upd_same
                generalize upd H6 t6 (.lst []) = H7 at s7 e7 et6 ⊢
                have s57 := s6.trans s7
                refine ⟨.list ((h.filter fun x => !decide (x ∈ l)).map .str), .list [], .lst (SqL.of e7) (dp_strs _), .lst (SqL.of et6) .nil, (sh_lst (n := 0) fun x hx => sh_str (lay3.2 x (List.mem_filter.mp hx).1)).ok (by decide), by decide, _, rfl, ?_⟩
                rw [show PyData.eqv (.list ((h.filter fun x => !decide (x ∈ l)).map .str)) (.list []) = decide ((h.filter fun x => !decide (x ∈ l)) = []) from eqvAll_map eqv_str _ [], miss_prt, eok]
                have k7 : Kept lp H2 H7 := k5.trans fun b o e _ => s57 b o e
                have el7 := s57 _ _ e5
                have pl : (((List.range i2).map (lo + ·)).filter (ok h)).length ≤ 7 := Nat.le_trans (List.length_filter_le _ _) (by rw [List.length_map, List.length_range]; omega)
                have lj : jts2.length ≤ 903 := by
                  rw [al5.len, List.length_append, List.length_map]; omega
                by_cases cq : ok h (lo + i2) = true
                · rw [if_pos cq] at grow
                  rw [cq]
                  refine iteT ⟨_, rfl, .inl ⟨rfl, _, SqL.of el7⟩, _, rfl, _, rfl, by show 1 ≤ sizeLine; decide, fun t8 o8 k8 n8 => ?_⟩
                  have s8 := same_new k8 (.frz o8 (.tup [natV (lo + i2)]))
                  have et8 : upd H7 t8 (.frz o8 (.tup [natV (lo + i2)])) t8 = some (.frz o8 (.tup [natV (lo + i2)])) := upd_same
                  generalize upd H7 t8 (.frz o8 (.tup [natV (lo + i2)])) = H8 at s8 et8 ⊢
                  have htb8 := s8 _ _ (s57 _ _ htb5)
                  refine ⟨tb, t8, laid.map natV, [natV (lo + i2)], rfl, rfl, TupZ.sq ⟨ob, nob, htb8⟩, TupZ.sq ⟨o8, n8, et8⟩, by rw [List.length_map, sizeLine_eq]; show _ + 1 ≤ _; omega, fun e => ?_, fun _ e => by (cases e), fun ne _ p o9 kp n9 => ?_⟩
                  · have el0 : laid = [] := List.map_eq_nil_iff.mp e
                    have el8 := s8 _ _ el7
                    refine ⟨lp, jts2, .ref t8, rfl, rfl, el8, by rw [sizeLine_eq]; omega, jts2 ++ [.ref t8], some (natV (lo + i2)), o7, rfl, ?_, upd_same, ?_⟩
                    · exact fun b o e nb => by rw [upd_ne nb]; exact s8 _ _ (k7 b o e nb)
                    · rw [grow, ← List.append_assoc]
                      have fxe : Fix H5 (upd H8 lp (.lst (jts2 ++ [.ref t8]))) := (Fix.of (s57.trans s8)).trans (Fix.lst el8)
                      refine (al5.imp fun _ _ t => t.same fxe).app (.cons ⟨t8, rfl, o8, n8, ?_⟩ .nil)
                      rw [el0]
                      exact Fix.lst el8 _ _ et8 (not_mut_frz _ _)
                  · have s9 := same_new kp (.frz o9 (.tup (laid.map natV ++ [natV (lo + i2)])))
                    have ep9 : upd H8 p (.frz o9 (.tup (laid.map natV ++ [natV (lo + i2)]))) p = some (.frz o9 (.tup (laid.map natV ++ [natV (lo + i2)]))) := upd_same
                    generalize upd H8 p (.frz o9 (.tup (laid.map natV ++ [natV (lo + i2)]))) = H9 at s9 ep9 ⊢
                    have el9 := s9 _ _ (s8 _ _ el7)
                    refine ⟨lp, jts2, .ref p, rfl, rfl, el9, by rw [sizeLine_eq]; omega, jts2 ++ [.ref p], some (natV (lo + i2)), o7, rfl, ?_, upd_same, ?_⟩
                    · exact fun b o e nb => by rw [upd_ne nb]; exact s9 _ _ (s8 _ _ (k7 b o e nb))
                    · rw [grow, ← List.append_assoc]
                      have fxe : Fix H5 (upd H9 lp (.lst (jts2 ++ [.ref p]))) := (Fix.of ((s57.trans s8).trans s9)).trans (Fix.lst el9)
                      refine (al5.imp fun _ _ t => t.same fxe).app (.cons ⟨p, rfl, o9, n9, ?_⟩ .nil)
                      have := Fix.lst (o := .lst (jts2 ++ [.ref p])) el9 _ _ ep9 (not_mut_frz _ _)
                      rw [List.map_append]
                      exact this
                · rw [if_neg cq, List.append_nil] at grow
                  rw [Bool.eq_false_iff.mpr cq]
                  refine iteF ⟨jts2, some (natV (lo + i2)), o7, rfl, k7, el7, ?_⟩
                  rw [grow]
                  exact al5.imp fun _ _ t => t.same (Fix.of s57)
              · rintro σ H5 ⟨jts2, o6, o7, rfl, k5, e5, al5⟩
                refine ⟨jts2, _, o6, o7, rfl, k5, e5, ?_⟩
                rw [List.length_map, List.length_range, ← eext, ← enc] at al5
                exact al5
          · rintro σ H3 ⟨jts, o5, o6, o7, rfl, k3, e3, al3⟩
            have lf : its.length = F.length := alf.len
            rw [lf, List.take_length, ← hs1] at al3
            exact ⟨jts, o5, o6, o7, rfl, k3, e3, al3⟩
        rintro σ H3 ⟨jts, o5, o6, o7, rfl, k3, e3, al3⟩
        refine ⟨_, rfl, lp, jts, ⟨_, _, _, _, _, rfl⟩, s1.trans (kin _ k3), e3, al3⟩
      · rintro σ H1 ⟨fp, its, st, s1, ef, alf⟩
        have ln : bits.length = hs.length := alb.len
        rw [ln, List.take_length] at alf
        exact ⟨fp, its, st, s0.trans s1, ef, alf⟩
    rintro σ H1 ⟨fp, its, ⟨o3, o4, o5, o6, o7, rfl⟩, s1, ef, alf⟩
    exact ⟨_, rfl, q fp its H1 s1 ef alf⟩
end
end K6

/-! zip of two or three things, each a list or a tuple (true) -/
namespace Zn
open PySem PySem.Spec PyProof.Rows L2 Hb St Sq RZ Zp
def Bs (K : PySem.W.Frag) : Bool → Hp → Addr → List V → Prop
  | true => SqT K
  | false => SqL K
def Wi : Bool → Heap → Addr → Addr → Nat → Prop
  | true, h, it, a, i => h.IsTupleIter it a i
  | false, h, it, a, i => h.IsListIter it a i
def Wl : Bool → Heap → Addr → Array Value → Prop
  | true, h, a, us => h.IsTuple a us
  | false, h, a, us => h.IsList a us
def Wo (k : Bool) (a : Addr) : Obj := { cls := .type (match k with | true => "tuple_iterator" | false => "list_iterator"), data := .fields #[.ref a, .int 0 0] }
theorem Wi.over {k : Bool} {h h' : Heap} {it a : Addr} {i : Nat} (w : Wi k h it a i) (f : ∀ o, h.get? it = some o → h'.get? it = some o) : Wi k h' it a i := by
  cases k with
  | true => exact Heap.IsTupleIter.at w f
  | false => exact Heap.IsListIter.at w f
theorem Wi.obj {k : Bool} {h : Heap} {it a : Addr} {i : Nat} (w : Wi k h it a i) : ∃ o, h.get? it = some o ∧ ∀ v, o.data ≠ .cell v := by
  cases k with
  | true => obtain ⟨o, e, _, d⟩ := w; exact ⟨o, e, fun v z => by rw [d] at z; cases z⟩
  | false => obtain ⟨o, e, _, d⟩ := w; exact ⟨o, e, fun v z => by rw [d] at z; cases z⟩
theorem Wi.of {k : Bool} {h : Heap} {it a : Addr} (e : h.get? it = some (Wo k a)) : Wi k h it a 0 := by
  cases k with
  | true => exact ⟨_, e, rfl, rfl⟩
  | false => exact ⟨_, e, rfl, rfl⟩
theorem Wl.lt {k : Bool} {h : Heap} {a : Addr} {us : Array Value} (w : Wl k h a us) : a < h.objs.size := by
  cases k with
  | true => obtain ⟨o, e, _⟩ := w; exact Heap.lt_size e
  | false => obtain ⟨o, e, _⟩ := w; exact Heap.lt_size e
theorem draws {prog : Program} {w : World} {A : Around} (k : Bool) (hn : A.handled = none) (it a : Addr) (ne : a ≠ it) (us : Array Value) :
    Draws prog w A it [it, a] us.size (fun i v => us[i]? = some v) (fun i h => Wi k h it a i ∧ Wl k h a us) := by
  cases k with
  | true => exact Draws.tuple hn it a ne us
  | false => exact Draws.list hn it a ne us
theorem begins (k : Bool) (a : Addr) (us : Array Value) : Begins (.ref a) (Wo k a) fun h => Wl k h a us := by
  cases k with
  | true => exact begins_tuple a us
  | false => exact begins_list a us
section
variable {X : Cx} {pins : List (Addr × Obj)} {σ : L2.St} {H : Hp} {s : Shared} {k : Bool} {a : Addr} {xs ys : List V}
theorem bs_vals (I : Inv X pins σ H s) (h : Bs X.K k H a xs) : ∃ us : List Value, Vals xs us ∧ Wl k s.heap a us.toArray ∧ us.toArray.size = xs.length := by
  cases k with
  | true =>
    obtain ⟨us, r, p, _⟩ := I.tuple h
    exact ⟨us, r, p, by have := r.length; simpa using this.symm⟩
  | false =>
    obtain ⟨us, r, p, _⟩ := I.list h
    exact ⟨us, r, p.isList, by have := r.length; simpa using this.symm⟩
theorem bs_one (I : Inv X pins σ H s) (h : Bs X.K k H a xs) (h' : Bs X.K k H a ys) : xs = ys := by
  cases k with
  | true => exact I.tuple_inj h h'
  | false => exact I.list_inj h h'
theorem Bs.same {K : PySem.W.Frag} {H H' : Hp} (s : Same H H') (h : Bs K k H a xs) : Bs K k H' a xs := by
  cases k with
  | true => exact tupFix (Fix.of s) h
  | false => exact lstSame s h
theorem Bs.tup {K : PySem.W.Frag} {H : Hp} (h : SqT K H a xs) : Bs K true H a xs := h
theorem Bs.lst {K : PySem.W.Frag} {H : Hp} (h : SqL K H a xs) : Bs K false H a xs := h
end
/-! ### two -/
def Zj (K : PySem.W.Frag) (k m : Bool) (a b : Addr) : It :=
  ⟨fun i H => ∃ xs ys : List V, Bs K k H a xs ∧ Bs K m H b ys ∧ i < xs.length ∧ i < ys.length,
    fun i H v H' => ∃ T x y, v = .ref T ∧ H T = none ∧ H' = upd H T (.tup [x, y]) ∧ (∀ xs, Bs K k H a xs → xs[i]? = some x) ∧ ∀ ys, Bs K m H b ys → ys[i]? = some y,
    fun i H => ∃ xs ys : List V, Bs K k H a xs ∧ Bs K m H b ys ∧ i ≤ xs.length ∧ i ≤ ys.length ∧ (i = xs.length ∨ i = ys.length)⟩
theorem two_fp {c z TI TO i1 i2 : Addr} (h : c ∈ [z, TI, TO, i1, i2]) : c = z ∨ c = TI ∨ c = TO ∨ c = i1 ∨ c = i2 := by simpa using h
theorem turn_zj {P : Program} {w : World} {K : PySem.W.Frag} {elts : List Expr} {kk : Nat} {tpos : Pos} {k m : Bool} {a b z TI TO i1 i2 : Addr} (S : ZipSep2 z TI TO i1 i2 [i1, a] [i2, b]) (na : a ≠ i1) (nb : b ≠ i2) :
    Turn P w K (.Tuple elts kk tpos) (Zj K k m a b) [z, TI, TO, i1, i2] z (fun i h => IsZip h z TI TO .none ∧ IsTupOf2 h TI (.ref i1) (.ref i2) ∧ (∃ p q, IsTupOf2 h TO p q) ∧ Wi k h i1 a i ∧ Wi m h i2 b i) where
  mem := by simp
  obj := fun i h st c hc => by
    obtain ⟨gz, gT, ⟨p, q, gO⟩, w1, w2⟩ := st
    rcases two_fp hc with e | e | e | e | e
    · rw [e]; exact ⟨_, gz, fun v z => nomatch z⟩
    · rw [e]; exact ⟨_, gT, fun v z => nomatch z⟩
    · rw [e]; exact ⟨_, gO, fun v z => nomatch z⟩
    · rw [e]; exact w1.obj
    · rw [e]; exact w2.obj
  keep := fun i h h' st f => by
    obtain ⟨gz, gT, ⟨p, q, gO⟩, w1, w2⟩ := st
    exact ⟨f z (by simp) _ gz, f TI (by simp) _ gT, ⟨p, q, f TO (by simp) _ gO⟩, w1.over fun o e => f i1 (by simp) o e, w2.over fun o e => f i2 (by simp) o e⟩
  item := by
    intro X e1 e2 e3 cm i pins s σ H E I fr st gg
    subst e1 e2 e3
    obtain ⟨gz, gT, ⟨p, q, gO⟩, w1, w2⟩ := st
    obtain ⟨xs, ys, bx, bY, lx, ly⟩ := gg
    obtain ⟨us, rx, wx, nx⟩ := bs_vals I bx
    obtain ⟨ut, ry, wy, ny⟩ := bs_vals I bY
    obtain ⟨u, hu, ru⟩ := rx.get (List.getElem?_eq_getElem lx)
    obtain ⟨t, ht, rt⟩ := ry.get (List.getElem?_eq_getElem ly)
    have hn : X.A.in1.handled = none := I.ok.hd cm
    have lz : z < s.heap.objs.size := Heap.lt_size gz
    refine wpAny_pyNext_zipD2_item S (draws k hn i1 a na us.toArray) (draws m hn i2 b nb ut.toArray) gz gT gO ⟨w1, wx⟩ ⟨w2, wy⟩ (by rw [nx]; exact lx) (by rw [ny]; exact ly) fun y1 y2 h' tk p1 p2 gz' gO' v1 v2 gN _ kk => ?_
    have q1 : y1 = u := by have p1 : us.toArray[i]? = some y1 := p1; have hu : us[i]? = some u := hu; rw [List.getElem?_toArray, hu] at p1; exact (Option.some.inj p1).symm
    have q2 : y2 = t := by have p2 : ut.toArray[i]? = some y2 := p2; have ht : ut[i]? = some t := ht; rw [List.getElem?_toArray, ht] at p2; exact (Option.some.inj p2).symm
    subst q1 q2
    refine ⟨_, rfl, wpAny_letOwnedTupleGo_zip (s := { s with heap := h', toks := tk }) gz' fun h2 gz2 sb => ?_⟩
    have gN2 : h2.get? s.heap.objs.size = some { cls := .type "tuple", data := .seq #[y1, y2] } := (sb.2 _ (Nat.ne_of_gt lz)).trans gN
    have neu : ObjOk X.prog X.w (upd H s.heap.objs.size (.tup [xs[i], ys[i]])) h2 s.heap.objs.size (.tup [xs[i], ys[i]]) :=
      ⟨by show 2 ≤ sizeLine; decide, [y1, y2], .cons ru (.cons rt .nil), ⟨_, gN2, rfl, _, rfl⟩⟩
    have I1 : Inv X pins σ (upd H s.heap.objs.size (.tup [xs[i], ys[i]])) { s with heap := h2, toks := tk } :=
      I.turnedNew (ch := [z, TI, TO, i1, i2]) (fun c o nc e => by
        simp only [List.mem_cons, List.not_mem_nil, or_false, not_or] at nc
        obtain ⟨n1, _, n3, n4, n5⟩ := nc
        exact (sb.2 c n1).trans (kk c o n1 n3 n4 n5 e)) fr (Nat.le_refl _) neu
    refine ⟨.ref s.heap.objs.size, _, I1, rfl, ⟨_, _, _, rfl, I.hok.fresh (Nat.le_refl _), rfl, fun l hl => by rw [bs_one I hl bx]; exact List.getElem?_eq_getElem lx, fun l hl => by rw [bs_one I hl bY]; exact List.getElem?_eq_getElem ly⟩, ⟨gz2, (sb.2 _ S.TIz).trans (kk _ _ S.TIz S.TITO S.TIi1 S.TIi2 gT), ⟨y1, y2, (sb.2 _ S.TOz).trans gO'⟩, v1.1.over fun o e => (sb.2 _ (Ne.symm S.zi1)).trans e, v2.1.over fun o e => (sb.2 _ (Ne.symm S.zi2)).trans e⟩, fun c cm => ?_⟩
    have lc : c < s.heap.objs.size := by
      rcases two_fp cm with e | e | e | e | e
      · rw [e]; exact lz
      · rw [e]; exact Heap.lt_size gT
      · rw [e]; exact Heap.lt_size gO
      · rw [e]; obtain ⟨_, g, _⟩ := w1.obj; exact Heap.lt_size g
      · rw [e]; obtain ⟨_, g, _⟩ := w2.obj; exact Heap.lt_size g
    rw [upd_ne (Nat.ne_of_lt lc)]
    exact (fr c cm).1
  done := by
    intro X e1 e2 e3 cm i pins s σ H E I fr st gg
    subst e1 e2 e3
    obtain ⟨gz, gT, ⟨p, q, gO⟩, w1, w2⟩ := st
    obtain ⟨xs, ys, bx, bY, lx, ly, en⟩ := gg
    obtain ⟨us, rx, wx, nx⟩ := bs_vals I bx
    obtain ⟨ut, ry, wy, ny⟩ := bs_vals I bY
    have hn : X.A.in1.handled = none := I.ok.hd cm
    refine wpAny_pyNext_zipD2_end S (draws k hn i1 a na us.toArray) (draws m hn i2 b nb ut.toArray) gz gT gO ⟨w1, wx⟩ ⟨w2, wy⟩ (by rw [nx]; exact lx) (by rw [ny]; exact ly) (by rw [nx, ny]; exact en) fun h' tk kk => ⟨rfl, I.turnedL (ch := [z, TI, TO, i1, i2]) (fun c o nc e => ?_) fr⟩
    simp only [List.mem_cons, List.not_mem_nil, or_false, not_or] at nc
    exact kk c o nc.1 nc.2.2.1 nc.2.2.2.1 nc.2.2.2.2 e
  self := fun A i s Q E st h => wpAny_pyIter_zip st.1 h
theorem sep2 {n a b : Addr} (ha : a < n) (hb : b < n) : ZipSep2 (n + 4) (n + 2) (n + 3) n (n + 1) [n, a] [n + 1, b] := by
  have l (i : Nat) : a < n + i := Nat.lt_add_right i ha
  have r (i : Nat) : b < n + i := Nat.lt_add_right i hb
  have d {i j : Nat} (h : i ≠ j) : n + i ≠ n + j := fun e => h (Nat.add_left_cancel e)
  have d0 {i : Nat} (h : i ≠ 0) : n + i ≠ n := fun e => h (Nat.add_left_cancel (k := 0) e)
  refine ⟨d (by decide), d (by decide), d (by decide), d0 (by decide), by simp, ?_, ?_, d (by decide), by simp, ?_, ?_, ?_, ?_⟩
  all_goals simp only [List.mem_cons, List.not_mem_nil, or_false, not_or]
  · exact ⟨d0 (by decide), (Nat.ne_of_lt (l 4)).symm⟩
  · exact ⟨d0 (by decide), (Nat.ne_of_lt (l 3)).symm⟩
  · exact ⟨d (by decide), (Nat.ne_of_lt (r 4)).symm⟩
  · exact ⟨d (by decide), (Nat.ne_of_lt (r 3)).symm⟩
  · exact ⟨(d0 (i := 1) (by decide)).symm, (Nat.ne_of_lt hb).symm⟩
  · exact ⟨d0 (i := 1) (by decide), (Nat.ne_of_lt (l 1)).symm⟩
def iZj (K : PySem.W.Frag) (k m : Bool) (ta : TA) : TI := fun σ H R => ta σ H fun vs H1 => ∃ a b xs ys, vs = [.ref a, .ref b] ∧ Bs K k H1 a xs ∧ Bs K m H1 b ys ∧ R (Zj K k m a b) H1
theorem pi_zj {X : Cx} {e e2 : Expr} {ta : TA} {p pos tpos : Pos} {elts : List Expr} {kk : Nat} (k m : Bool) (gl : Gl X "zip") (nm : X.mg "zip" = none) (ha : PA X [e, e2] ta)
    (se : starEach [e, e2] X.env = (false, eval e X.env) :: starEach [e2] X.env := by rfl) (sp : (backTo pos (starEach [e2] X.env)).any (·.1) = false := by rfl) :
    PI X (.Tuple elts kk tpos) (.Call (.Name "zip" p) [e, e2] [] pos) (iZj X.K k m ta) := by
  refine ⟨fun pins s σ H R I h => ?_⟩
  refine Call_ (ld_blt I gl nm boot_zip (callWith_type1 (thn (ha.run pos pins s σ H _ I h) fun us s1 ⟨vs, H1, I1, r1, q1⟩ => ?_) se sp))
  obtain ⟨a, b, xs, ys, rfl, bx, bY, q⟩ := q1
  obtain ⟨u1, u2, rfl, r1, r2⟩ : ∃ u1 u2, us = [u1, u2] ∧ RelV (.ref a) u1 ∧ RelV (.ref b) u2 := by
    cases r1 with
    | cons r t =>
      cases t with
      | cons r' t =>
        cases t
        exact ⟨_, _, rfl, r, r'⟩
  cases r1
  cases r2
  obtain ⟨us, rx, wx, nx⟩ := bs_vals I1 bx
  obtain ⟨ut, ry, wy, ny⟩ := bs_vals I1 bY
  have la := wx.lt
  have lb := wy.lt
  refine zip_begins2 (begins k a us.toArray) (begins m b ut.toArray) wx wy fun h' gz gT gO g1 g2 _ kp => wpAny_pyIter_zip gz ?_
  refine ⟨s1.heap.objs.size + 4, [s1.heap.objs.size + 4, s1.heap.objs.size + 2, s1.heap.objs.size + 3, s1.heap.objs.size, s1.heap.objs.size + 1], _, _, H1, rfl, I1.kept (t' := s1.toks) kp, turn_zj (sep2 la lb) (Nat.ne_of_lt la) (Nat.ne_of_lt (Nat.lt_add_right 1 lb)), ⟨gz, gT, ⟨_, _, gO⟩, Wi.of g1, Wi.of g2⟩, fun c cm => ?_, q⟩
  have le : s1.heap.objs.size ≤ c := by
    rcases two_fp cm with e | e | e | e | e <;> rw [e] <;> first | exact Nat.le_add_right _ _ | exact Nat.le_refl _
  exact I1.fpOk le (I1.hok.fresh le)
theorem wp_zj {K : PySem.W.Frag} {k m : Bool} {a b : Addr} {xs ys : List V} : Wp (Zj K k m a b) (fun H => Bs K k H a xs ∧ Bs K m H b ys) (xs.zip ys) where
  go := fun i H hi s => by
    rw [List.length_zip] at hi
    exact ⟨xs, ys, s.1, s.2, by omega, by omega⟩
  stop := fun H s => ⟨xs, ys, s.1, s.2, by rw [List.length_zip]; omega, by rw [List.length_zip]; omega, by rw [List.length_zip]; omega⟩
  yld := fun i H v H' hi s ⟨T, x, y, e1, e2, e3, f, g⟩ => ⟨T, (x, y), e1, e2, e3, zip_at (f xs s.1) (g ys s.2)⟩
  keep := fun z s => ⟨s.1.same z, s.2.same z⟩
/-! ### three -/
def Zk (K : PySem.W.Frag) (k m n : Bool) (a b c : Addr) : It :=
  ⟨fun i H => ∃ xs ys zs : List V, Bs K k H a xs ∧ Bs K m H b ys ∧ Bs K n H c zs ∧ i < xs.length ∧ i < ys.length ∧ i < zs.length,
    fun i H v H' => ∃ T x y z, v = .ref T ∧ H T = none ∧ H' = upd H T (.tup [x, y, z]) ∧ (∀ xs, Bs K k H a xs → xs[i]? = some x) ∧ (∀ ys, Bs K m H b ys → ys[i]? = some y) ∧ ∀ zs, Bs K n H c zs → zs[i]? = some z,
    fun i H => ∃ xs ys zs : List V, Bs K k H a xs ∧ Bs K m H b ys ∧ Bs K n H c zs ∧ i ≤ xs.length ∧ i ≤ ys.length ∧ i ≤ zs.length ∧ (i = xs.length ∨ i = ys.length ∨ i = zs.length)⟩
theorem three_fp {c z TI TO i1 i2 i3 : Addr} (h : c ∈ [z, TI, TO, i1, i2, i3]) : c = z ∨ c = TI ∨ c = TO ∨ c = i1 ∨ c = i2 ∨ c = i3 := by simpa using h
theorem turn_zk {P : Program} {w : World} {K : PySem.W.Frag} {elts : List Expr} {kk : Nat} {tpos : Pos} {k m n : Bool} {a b d z TI TO i1 i2 i3 : Addr} (S : ZipSep3 z TI TO i1 i2 i3 [i1, a] [i2, b] [i3, d]) (na : a ≠ i1) (nb : b ≠ i2) (nd : d ≠ i3) :
    Turn P w K (.Tuple elts kk tpos) (Zk K k m n a b d) [z, TI, TO, i1, i2, i3] z (fun i h => IsZip h z TI TO .none ∧ IsTupOf3 h TI (.ref i1) (.ref i2) (.ref i3) ∧ (∃ p q r, IsTupOf3 h TO p q r) ∧ Wi k h i1 a i ∧ Wi m h i2 b i ∧ Wi n h i3 d i) where
  mem := by simp
  obj := fun i h st c hc => by
    obtain ⟨gz, gT, ⟨p, q, r, gO⟩, w1, w2, w3⟩ := st
    rcases three_fp hc with e | e | e | e | e | e
    · rw [e]; exact ⟨_, gz, fun v z => nomatch z⟩
    · rw [e]; exact ⟨_, gT, fun v z => nomatch z⟩
    · rw [e]; exact ⟨_, gO, fun v z => nomatch z⟩
    · rw [e]; exact w1.obj
    · rw [e]; exact w2.obj
    · rw [e]; exact w3.obj
  keep := fun i h h' st f => by
    obtain ⟨gz, gT, ⟨p, q, r, gO⟩, w1, w2, w3⟩ := st
    exact ⟨f z (by simp) _ gz, f TI (by simp) _ gT, ⟨p, q, r, f TO (by simp) _ gO⟩, w1.over fun o e => f i1 (by simp) o e, w2.over fun o e => f i2 (by simp) o e, w3.over fun o e => f i3 (by simp) o e⟩
  item := by
    intro X e1 e2 e3 cm i pins s σ H E I fr st gg
    subst e1 e2 e3
    obtain ⟨gz, gT, ⟨p, q, r, gO⟩, w1, w2, w3⟩ := st
    obtain ⟨xs, ys, zs, bx, bY, bz, lx, ly, lzs⟩ := gg
    obtain ⟨us, rx, wx, nx⟩ := bs_vals I bx
    obtain ⟨ut, ry, wy, ny⟩ := bs_vals I bY
    obtain ⟨uv, rz, wz, nz⟩ := bs_vals I bz
    obtain ⟨u, hu, ru⟩ := rx.get (List.getElem?_eq_getElem lx)
    obtain ⟨t, ht, rt⟩ := ry.get (List.getElem?_eq_getElem ly)
    obtain ⟨v, hv, rv⟩ := rz.get (List.getElem?_eq_getElem lzs)
    have hn : X.A.in1.handled = none := I.ok.hd cm
    have lz : z < s.heap.objs.size := Heap.lt_size gz
    refine wpAny_pyNext_zipD3_item S (draws k hn i1 a na us.toArray) (draws m hn i2 b nb ut.toArray) (draws n hn i3 d nd uv.toArray) gz gT gO ⟨w1, wx⟩ ⟨w2, wy⟩ ⟨w3, wz⟩ (by rw [nx]; exact lx) (by rw [ny]; exact ly) (by rw [nz]; exact lzs) fun y1 y2 y3 h' tk p1 p2 p3 gz' gO' v1 v2 v3 gN _ kk => ?_
    have q1 : y1 = u := by have p1 : us.toArray[i]? = some y1 := p1; have hu : us[i]? = some u := hu; rw [List.getElem?_toArray, hu] at p1; exact (Option.some.inj p1).symm
    have q2 : y2 = t := by have p2 : ut.toArray[i]? = some y2 := p2; have ht : ut[i]? = some t := ht; rw [List.getElem?_toArray, ht] at p2; exact (Option.some.inj p2).symm
    have q3 : y3 = v := by have p3 : uv.toArray[i]? = some y3 := p3; have hv : uv[i]? = some v := hv; rw [List.getElem?_toArray, hv] at p3; exact (Option.some.inj p3).symm
    subst q1 q2 q3
    refine ⟨_, rfl, wpAny_letOwnedTupleGo_zip (s := { s with heap := h', toks := tk }) gz' fun h2 gz2 sb => ?_⟩
    have gN2 : h2.get? s.heap.objs.size = some { cls := .type "tuple", data := .seq #[y1, y2, y3] } := (sb.2 _ (Nat.ne_of_gt lz)).trans gN
    have neu : ObjOk X.prog X.w (upd H s.heap.objs.size (.tup [xs[i], ys[i], zs[i]])) h2 s.heap.objs.size (.tup [xs[i], ys[i], zs[i]]) :=
      ⟨by show 3 ≤ sizeLine; decide, [y1, y2, y3], .cons ru (.cons rt (.cons rv .nil)), ⟨_, gN2, rfl, _, rfl⟩⟩
    have I1 : Inv X pins σ (upd H s.heap.objs.size (.tup [xs[i], ys[i], zs[i]])) { s with heap := h2, toks := tk } :=
      I.turnedNew (ch := [z, TI, TO, i1, i2, i3]) (fun c o nc e => by
        simp only [List.mem_cons, List.not_mem_nil, or_false, not_or] at nc
        obtain ⟨n1, _, n3, n4, n5, n6⟩ := nc
        exact (sb.2 c n1).trans (kk c o n1 n3 n4 n5 n6 e)) fr (Nat.le_refl _) neu
    refine ⟨.ref s.heap.objs.size, _, I1, rfl, ⟨_, _, _, _, rfl, I.hok.fresh (Nat.le_refl _), rfl, fun l hl => by rw [bs_one I hl bx]; exact List.getElem?_eq_getElem lx, fun l hl => by rw [bs_one I hl bY]; exact List.getElem?_eq_getElem ly, fun l hl => by rw [bs_one I hl bz]; exact List.getElem?_eq_getElem lzs⟩,
      ⟨gz2, (sb.2 _ S.TIz).trans (kk _ _ S.TIz S.TITO S.TIi1 S.TIi2 S.TIi3 gT), ⟨y1, y2, y3, (sb.2 _ S.TOz).trans gO'⟩, v1.1.over fun o e => (sb.2 _ (Ne.symm S.zi1)).trans e, v2.1.over fun o e => (sb.2 _ (Ne.symm S.zi2)).trans e, v3.1.over fun o e => (sb.2 _ (Ne.symm S.zi3)).trans e⟩, fun c cm => ?_⟩
    have lc : c < s.heap.objs.size := by
      rcases three_fp cm with e | e | e | e | e | e
      · rw [e]; exact lz
      · rw [e]; exact Heap.lt_size gT
      · rw [e]; exact Heap.lt_size gO
      · rw [e]; obtain ⟨_, g, _⟩ := w1.obj; exact Heap.lt_size g
      · rw [e]; obtain ⟨_, g, _⟩ := w2.obj; exact Heap.lt_size g
      · rw [e]; obtain ⟨_, g, _⟩ := w3.obj; exact Heap.lt_size g
    rw [upd_ne (Nat.ne_of_lt lc)]
    exact (fr c cm).1
  done := by
    intro X e1 e2 e3 cm i pins s σ H E I fr st gg
    subst e1 e2 e3
    obtain ⟨gz, gT, ⟨p, q, r, gO⟩, w1, w2, w3⟩ := st
    obtain ⟨xs, ys, zs, bx, bY, bz, lx, ly, lzs, en⟩ := gg
    obtain ⟨us, rx, wx, nx⟩ := bs_vals I bx
    obtain ⟨ut, ry, wy, ny⟩ := bs_vals I bY
    obtain ⟨uv, rz, wz, nz⟩ := bs_vals I bz
    have hn : X.A.in1.handled = none := I.ok.hd cm
    refine wpAny_pyNext_zipD3_end S (draws k hn i1 a na us.toArray) (draws m hn i2 b nb ut.toArray) (draws n hn i3 d nd uv.toArray) gz gT gO ⟨w1, wx⟩ ⟨w2, wy⟩ ⟨w3, wz⟩ (by rw [nx]; exact lx) (by rw [ny]; exact ly) (by rw [nz]; exact lzs) (by rw [nx, ny, nz]; exact en) fun h' tk kk => ⟨rfl, I.turnedL (ch := [z, TI, TO, i1, i2, i3]) (fun c o nc e => ?_) fr⟩
    simp only [List.mem_cons, List.not_mem_nil, or_false, not_or] at nc
    exact kk c o nc.1 nc.2.2.1 nc.2.2.2.1 nc.2.2.2.2.1 nc.2.2.2.2.2 e
  self := fun A i s Q E st h => wpAny_pyIter_zip st.1 h
theorem sep3 {n a b c : Addr} (ha : a < n) (hb : b < n) (hc : c < n) : ZipSep3 (n + 5) (n + 3) (n + 4) n (n + 1) (n + 2) [n, a] [n + 1, b] [n + 2, c] := by
  have l (i : Nat) : n + i ≠ a := (Nat.ne_of_lt (Nat.lt_add_right i ha)).symm
  have r (i : Nat) : n + i ≠ b := (Nat.ne_of_lt (Nat.lt_add_right i hb)).symm
  have t (i : Nat) : n + i ≠ c := (Nat.ne_of_lt (Nat.lt_add_right i hc)).symm
  have d {i j : Nat} (h : i ≠ j) : n + i ≠ n + j := fun e => h (Nat.add_left_cancel e)
  have d0 {i : Nat} (h : i ≠ 0) : n + i ≠ n := fun e => h (Nat.add_left_cancel (k := 0) e)
  refine ⟨d (by decide), d (by decide), d (by decide), d0 (by decide), by simp, ?_, ?_, d (by decide), by simp, ?_, ?_, d (by decide), by simp, ?_, ?_, ?_, ?_, ?_, ?_, ?_, ?_⟩
  all_goals simp only [List.mem_cons, List.not_mem_nil, or_false, not_or]
  · exact ⟨d0 (by decide), l 5⟩
  · exact ⟨d0 (by decide), l 4⟩
  · exact ⟨d (by decide), r 5⟩
  · exact ⟨d (by decide), r 4⟩
  · exact ⟨d (by decide), t 5⟩
  · exact ⟨d (by decide), t 4⟩
  · exact ⟨(d0 (i := 1) (by decide)).symm, r 0⟩
  · exact ⟨(d0 (i := 2) (by decide)).symm, t 0⟩
  · exact ⟨d0 (i := 1) (by decide), l 1⟩
  · exact ⟨d (by decide), t 1⟩
  · exact ⟨d0 (i := 2) (by decide), l 2⟩
  · exact ⟨d (by decide), r 2⟩
def iZk (K : PySem.W.Frag) (k m n : Bool) (ta : TA) : TI := fun σ H R => ta σ H fun vs H1 => ∃ a b c xs ys zs, vs = [.ref a, .ref b, .ref c] ∧ Bs K k H1 a xs ∧ Bs K m H1 b ys ∧ Bs K n H1 c zs ∧ R (Zk K k m n a b c) H1
theorem pi_zk {X : Cx} {e e2 e3 : Expr} {ta : TA} {p pos tpos : Pos} {elts : List Expr} {kk : Nat} (k m n : Bool) (gl : Gl X "zip") (nm : X.mg "zip" = none) (ha : PA X [e, e2, e3] ta)
    (se : starEach [e, e2, e3] X.env = (false, eval e X.env) :: starEach [e2, e3] X.env := by rfl) (sp : (backTo pos (starEach [e2, e3] X.env)).any (·.1) = false := by rfl) :
    PI X (.Tuple elts kk tpos) (.Call (.Name "zip" p) [e, e2, e3] [] pos) (iZk X.K k m n ta) := by
  refine ⟨fun pins s σ H R I h => ?_⟩
  refine Call_ (ld_blt I gl nm boot_zip (callWith_type1 (thn (ha.run pos pins s σ H _ I h) fun us s1 ⟨vs, H1, I1, r1, q1⟩ => ?_) se sp))
  obtain ⟨a, b, c, xs, ys, zs, rfl, bx, bY, bz, q⟩ := q1
  obtain ⟨u1, u2, u3, rfl, r1, r2, r3⟩ : ∃ u1 u2 u3, us = [u1, u2, u3] ∧ RelV (.ref a) u1 ∧ RelV (.ref b) u2 ∧ RelV (.ref c) u3 := by
    cases r1 with
    | cons r t =>
      cases t with
      | cons r' t =>
        cases t with
        | cons r'' t =>
          cases t
          exact ⟨_, _, _, rfl, r, r', r''⟩
  cases r1
  cases r2
  cases r3
  obtain ⟨us, rx, wx, nx⟩ := bs_vals I1 bx
  obtain ⟨ut, ry, wy, ny⟩ := bs_vals I1 bY
  obtain ⟨uv, rz, wz, nz⟩ := bs_vals I1 bz
  have la := wx.lt
  have lb := wy.lt
  have lc := wz.lt
  refine zip_begins3 (begins k a us.toArray) (begins m b ut.toArray) (begins n c uv.toArray) wx wy wz fun h' gz gT gO g1 g2 g3 _ kp => wpAny_pyIter_zip gz ?_
  refine ⟨s1.heap.objs.size + 5, [s1.heap.objs.size + 5, s1.heap.objs.size + 3, s1.heap.objs.size + 4, s1.heap.objs.size, s1.heap.objs.size + 1, s1.heap.objs.size + 2], _, _, H1, rfl, I1.kept (t' := s1.toks) kp, turn_zk (sep3 la lb lc) (Nat.ne_of_lt la) (Nat.ne_of_lt (Nat.lt_add_right 1 lb)) (Nat.ne_of_lt (Nat.lt_add_right 2 lc)), ⟨gz, gT, ⟨_, _, _, gO⟩, Wi.of g1, Wi.of g2, Wi.of g3⟩, fun c cm => ?_, q⟩
  have le : s1.heap.objs.size ≤ c := by
    rcases three_fp cm with e | e | e | e | e | e <;> rw [e] <;> first | exact Nat.le_add_right _ _ | exact Nat.le_refl _
  exact I1.fpOk le (I1.hok.fresh le)
/-- a loop over zip of three things of one length -/
theorem for_zk {K : PySem.W.Frag} {k m n : Bool} {a b c : Addr} {xs ys zs : List V} {g : TG} {tb : TS} {D : Ends} {σ : L2.St} {H : Hp} (l2 : xs.length = ys.length) (l3 : xs.length = zs.length) (Pv : Nat → L2.St → Hp → Prop) (h0 : Pv 0 σ H) (hq : ∀ i σ H, Pv i σ H → Bs K k H a xs ∧ Bs K m H b ys ∧ Bs K n H c zs)
    (hs : ∀ (i : Nat) (x y z : V) (T : Addr) (σ : L2.St) (H : Hp), xs[i]? = some x → ys[i]? = some y → zs[i]? = some z → Pv i σ H → H T = none → g (.ref T) σ (upd H T (.tup [x, y, z])) fun σ2 H2 => tb { D with nx := Pv (i + 1), ct := Pv (i + 1), bk := D.nx } σ2 H2) (hd : ∀ σ H, Pv xs.length σ H → D.nx σ H) :
    ∃ W : Nat → Nat → L2.St → Hp → Prop, (∃ r, W 0 r σ H) ∧ ∀ i r σ H, W i r σ H →
      ((Zk K k m n a b c).stop i H ∧ D.nx σ H) ∨ ((Zk K k m n a b c).go i H ∧ ∃ N : L2.St → Hp → Prop, (∀ σ' H', N σ' H' → ∃ r', r' < r ∧ W (i + 1) r' σ' H') ∧ ∀ v H', (Zk K k m n a b c).yld i H v H' → g v σ H' fun σ2 H2 => tb { D with nx := N, ct := N, bk := D.nx } σ2 H2) := by
  refine ⟨fun i r σ H => r + i = xs.length ∧ Pv i σ H, ⟨xs.length, rfl, h0⟩, ?_⟩
  rintro i r σ H ⟨e, pv⟩
  obtain ⟨q1, q2, q3⟩ := hq i σ H pv
  cases r with
  | zero =>
    obtain rfl : i = xs.length := by omega
    exact .inl ⟨⟨xs, ys, zs, q1, q2, q3, by omega, by omega, by omega, .inl rfl⟩, hd σ H pv⟩
  | succ r =>
    refine .inr ⟨⟨xs, ys, zs, q1, q2, q3, by omega, by omega, by omega⟩, Pv (i + 1), fun σ' H' p' => ⟨r, Nat.lt_succ_self r, by omega, p'⟩, fun v H' y => ?_⟩
    obtain ⟨T, x, y, z, rfl, hT, rfl, f1, f2, f3⟩ := y
    exact hs i x y z T σ H (f1 xs q1) (f2 ys q2) (f3 zs q3) pv hT
end Zn

namespace K6
open PySem PySem.Spec PyProof.Rows L2 Hb St Sq Ow En Zp RZ Rd Xb Rv Zn
def mayL (ls hs : List (List Str)) : List (List Nat) := (hs.zip ((grL ls hs).zip (bkL ls hs))).map fun p => ((List.range (p.2.2 + 1 - p.2.1)).map (p.2.1 + ·)).filter (okL ls p.1)
theorem stuck_lays {ls hs : List (List Str)} (h : stuckN ls hs = none) : Ks.lays ls.length (okL ls) hs ≠ [] := by
  refine Ks.gr_whole.mp ?_
  have := Ks.gr_len (n := ls.length) (ok := okL ls) hs 0
  unfold stuckN grL at h
  by_cases c : (Ks.gr ls.length (okL ls) hs 0).length < hs.length
  · rw [if_pos c] at h; cases h
  · omega
theorem gr_lenN {ls hs : List (List Str)} (h : stuckN ls hs = none) : (grL ls hs).length = hs.length := Ks.gr_whole.mpr (stuck_lays h)
theorem bk_lenN {ls hs : List (List Str)} (h : stuckN ls hs = none) : (bkL ls hs).length = hs.length := (Ks.bk_isLay (stuck_lays h)).len
theorem zip_atG {α β : Type} {xs : List α} {ys : List β} {i : Nat} {x : α} {y : β} (hx : xs[i]? = some x) (hy : ys[i]? = some y) : (xs.zip ys)[i]? = some (x, y) := by
  rw [List.getElem?_zip_eq_some]; exact ⟨hx, hy⟩
theorem may_at {ls hs : List (List Str)} {i b c : Nat} {h : List Str} (e1 : hs[i]? = some h) (e2 : (grL ls hs)[i]? = some b) (e3 : (bkL ls hs)[i]? = some c) : (mayL ls hs)[i]? = some (((List.range (c + 1 - b)).map (b + ·)).filter (okL ls h)) := by
  unfold mayL
  rw [List.getElem?_map, zip_atG e1 (zip_atG e2 e3)]
  rfl
theorem may_len {ls hs : List (List Str)} (h : stuckN ls hs = none) : (mayL ls hs).length = hs.length := by
  unfold mayL
  rw [List.length_map, List.length_zip, List.length_zip, gr_lenN h, bk_lenN h]; omega
section
variable {P : Program} {w : World} {K : PySem.W.Frag} {mg : Str → Option Value} {base : Heap}
/-! ### may_lie -/
abbrev s_may_lie : Stmt := top 23
theorem sc_may_lie : FnScope ["lots", "heard", "numbers", "lot", "first", "last", "number"] ["lots", "heard"] (defScope s_may_lie) := ⟨rfl, rfl, rfl, by decide +kernel, rfl, by decide +kernel, by decide +kernel⟩
def spMay (K : PySem.W.Frag) (C R : Addr) : Sp := fun vs H Q E => ∃ (v u : V) (d e : PyData) (ls hs : List (List Str)), vs = [v, u] ∧ TIn K H v u d e ls hs ∧ (firstNo [d, e] = none → stuckN ls hs = none → ∀ p its H', Same H H' → H' p = some (.tup its) → All2 (TupN H') its (mayL ls hs) → Q (.ref p) H') ∧ Refd K C R E H d e ls hs
theorem ok_may {f C R : Addr} {fd : FuncData} (F : Fun K "may_lie" "may_lie" s_may_lie f fd) (C_first_laying : Cx_ P w K mg base "first_laying" ["lots", "heard"] 7 (spFirst K C R)) (C_last_laying : Cx_ P w K mg base "last_laying" ["lots", "heard"] 7 (spLast K C R)) (C_is_part : Cl P w K mg base "is_part" ["lot", "other"] [] 2 (spPart K)) (n_range : mg "range" = none) (n_tuple : mg "tuple" = none) (n_zip : mg "zip" = none) : FnOk P w K mg base (L2.CX P w) 8 f fd ["lots", "heard"] (spMay K C R) := by
  refine F.okX sc_may_lie (fun vs H Q E h => ?_) (fun cdv A outer s H vs Q E hr h => ?_)
  · obtain ⟨_, _, _, _, _, _, rfl, _⟩ := h
    rfl
  · obtain ⟨v, u, d, e, ls, hs, rfl, ti, q, qr, qe⟩ := h
    refine ⟨_, (pss_cons (ps_set (i := 2) sc_may_lie.nd rfl (Or.inl rfl) (pe_lst pa_nil))
      (Evl.pss_cut (ps_for (passes_of rfl) rfl (pi_zk true true true (by rfl) n_zip (pa_cons (pv 1) (pa_cons (pe_useX C_first_laying (hr.mono (by decide)) (fun σ => passAt (takes_of rfl rfl rfl rfl) σ) rfl (pa_cons (pv 0) (pa_cons (pv 1) pa_nil))) (pa_cons (pe_useX C_last_laying (hr.mono (by decide)) (fun σ => passAt (takes_of rfl rfl rfl rfl) σ) rfl (pa_cons (pv 0) (pa_cons (pv 1) pa_nil))) pa_nil)))) (pg_tup rfl (pgs_cons (pg_name (i := 3) sc_may_lie.nd rfl (Or.inr rfl)) (pgs_cons (pg_name (i := 4) sc_may_lie.nd rfl (Or.inl rfl)) (pgs_cons (pg_name (i := 5) sc_may_lie.nd rfl (Or.inl rfl)) pgs_nil))))
        (pss_one (ps_expr (pe_bm PySem.F.plainAttrs_list PySem.F.slot_list_append PySem.F.type_list_append mt_append (pv 2) (pa_cons (pe_callTy call_tuple_of (by rfl) n_tuple (by decide +kernel) (pa_cons (pe_lc (own := [("number", 6)]) (g := gName 6) rfl sc_may_lie.nd (pi_range2 (by rfl) n_range (pa_cons (pv 4) (pa_cons (pe_op op_add (pv 5) pe_int) pa_nil))) (blkOk_by (N := ["lots", "heard", "numbers", "lot", "first", "last", "number"]) (sc := defScope s_may_lie) (by decide +kernel)) (fun _ _ _ _ _ => pg_name (i := 6) sc_may_lie.nd rfl (Or.inl rfl)) (fun _ _ _ _ _ => pts_one (pt_val (pe_use C_is_part (hr.mono (by decide)) rfl (pa_cons (pv 3) (pa_cons (pe_ix (r := rIxT K) ix_tup (pv 0) (pv 6) (fun _ _ => rfl)) pa_nil))))) (fun _ _ _ _ _ => pv 6)) pa_nil)) pa_nil)))))
      (pss_one (ps_ret (pe_callTy call_tuple_of (by rfl) n_tuple (by decide +kernel) (pa_cons (pv 2) pa_nil)))))), ?_⟩
    refine ⟨by show 0 ≤ sizeLine; decide, fun np knp => ?_⟩
    have s1 := same_new knp (.lst [])
    have enp : upd H np (.lst []) np = some (.lst []) := upd_same
    have kin : ∀ H', Kept np (upd H np (.lst [])) H' → Same H H' := fun H' k x o e => k x o (s1 _ _ e) (ne_of_none e knp)
    generalize upd H np (.lst []) = H1 at s1 enp kin ⊢
    have t1 := ti.same s1
    refine ⟨fun σ H' => ∃ its o1 o2 o3 o4, σ = [some v, some u, some (.ref np), o1, o2, o3, o4] ∧ Kept np H1 H' ∧ H' np = some (.lst its) ∧ All2 (TupN H') its (mayL ls hs) ∧ firstNo [d, e] = none ∧ stuckN ls hs = none, ?_, ?_⟩
    · refine ⟨_, rfl, _, rfl, _, rfl, v, u, d, e, ls, hs, rfl, t1, fun no em p1 H2 s2 e2 => ?_, fun m no em dd H2 s2 ed => qr m no em dd H2 (s1.trans s2) ed, fun k hk dd H2 s2 ed => qe k hk dd H2 (s1.trans s2) ed⟩
      refine ⟨_, rfl, _, rfl, v, u, d, e, ls, hs, rfl, t1.same s2, fun _ _ p2 H3 s3 e3 => ?_, fun m no em dd H3 s3 ed => qr m no em dd H3 ((s1.trans s2).trans s3) ed, fun k hk dd H3 s3 ed => qe k hk dd H3 ((s1.trans s2).trans s3) ed⟩
      have t3 := t1.same (s2.trans s3)
      obtain ⟨a, b, rfl, rfl, ⟨aits, ea, ala⟩, ⟨bits, eb, alb⟩⟩ := t3.ok no
      have e2 := s3 _ _ e2
      have en3 := (s2.trans s3) _ _ enp
      have k13 : Kept np H1 H3 := fun x o e _ => (s2.trans s3) x o e
      refine ⟨b, p1, p2, bits, _, _, rfl, SqT.of eb, SqT.of e2, SqT.of e3, ?_⟩
      have lb : bits.length = hs.length := alb.len
      have lg := gr_lenN em
      have lk := bk_lenN em
      have la : aits.length = ls.length := ala.len
      have anp : a ≠ np := fun z => by rw [z, en3] at ea; cases ea
      have bnp : b ≠ np := fun z => by rw [z, en3] at eb; cases eb
      have pnp : p1 ≠ np := fun z => by rw [z, en3] at e2; cases e2
      have qnp : p2 ≠ np := fun z => by rw [z, en3] at e3; cases e3
      refine for_zk (by rw [List.length_map, lb, lg]) (by rw [List.length_map, lb, lk]) (fun i σ H' => ∃ its o1 o2 o3 o4, σ = [some (.ref a), some (.ref b), some (.ref np), o1, o2, o3, o4] ∧ Kept np H3 H' ∧ H' np = some (.lst its) ∧ All2 (TupN H') its ((mayL ls hs).take i)) ⟨[], _, _, _, _, rfl, Kept.refl _ _, en3, .nil⟩ (fun i σ H' pv => let ⟨_, _, _, _, _, _, k, _⟩ := pv; ⟨SqT.of (k _ _ eb bnp), SqT.of (k _ _ e2 pnp), SqT.of (k _ _ e3 qnp)⟩) ?_ ?_
      · rintro i x y z T σ H4 ex ey ez ⟨its, o1, o2, o3, o4, rfl, k4, e4, al4⟩ hT
        obtain ⟨h, eh, hb', rfl, hhb⟩ := alb.get ex
        have hi : i < hs.length := (List.getElem?_eq_some_iff.mp eh).1
        obtain ⟨fb, efb⟩ : ∃ n, (grL ls hs)[i]? = some n := ⟨_, List.getElem?_eq_getElem (by omega)⟩
        obtain ⟨lc, elc⟩ : ∃ n, (bkL ls hs)[i]? = some n := ⟨_, List.getElem?_eq_getElem (by omega)⟩
        obtain rfl := at_map ey efb
        obtain rfl := at_map ez elc
        have s5 := same_new hT (.tup [.ref hb', natV fb, natV lc])
        refine ⟨T, _, rfl, SqT.of upd_same, rfl, _, _, rfl, _, _, rfl, _, _, rfl, rfl, ?_⟩
        have e5 := s5 _ _ e4
        have k5 : Kept np H3 (upd H4 T (.tup [.ref hb', natV fb, natV lc])) := k4.trans fun x o e _ => s5 x o e
        have al5 := al4.imp fun _ _ t => TupN.same t (Fix.of s5)
        generalize upd H4 T (.tup [.ref hb', natV fb, natV lc]) = H5 at e5 k5 al5 ⊢
        have fx5 : Fix H3 H5 := Fix.kept en3 k5
        have ea5 : H5 a = some (.tup aits) := k5 _ _ ea anp
        have hh5 : SqT K H5 hb' (h.map V.str) := tupFix fx5 hhb
        have ll := t3.ll
        have blc : lc < ls.length := (Ks.bk_isLay (stuck_lays em)).below lc (at_mem elc)
        have bfb : fb < ls.length := gr_below hs 0 fb (at_mem efb)
        refine ⟨_, rfl, .inl ⟨rfl, _, SqL.of e5⟩, _, rfl, _, rfl, _, _, rfl, rfl, (fb : Nat), ((lc : Nat) : Int) + 1, rfl, ⟨by omega, by omega, by omega, by omega⟩, fun D hD => ?_⟩
        rw [show ((((lc : Nat) : Int) + 1 - ((fb : Nat) : Int)).toNat) = lc + 1 - fb by omega]
        refine lc_mf (ds := (List.range (lc + 1 - fb)).map (fb + ·)) (wk_range (a := np)) (fun x => okL ls h x) (fun _ y x => y = natV x) trivial hD (by rw [List.length_map, List.length_map]) (fun j x n H6 ex en s6 m => ?_) (fun H6 ys s6 e6 al6 => ?_)
        · have hj : j < lc + 1 - fb := by
            have := (List.getElem?_eq_some_iff.mp en).1
            rwa [List.length_map, List.length_range] at this
          obtain rfl : fb + j = n := by
            rw [List.getElem?_map, List.getElem?_range hj] at en
            exact Option.some.inj en
          obtain rfl : natV (fb + j) = x := by
            rw [List.getElem?_map, List.getElem?_range hj] at ex
            have := Option.some.inj ex
            rw [← this]; rfl
          obtain ⟨l, el⟩ : ∃ l, ls[fb + j]? = some l := ⟨_, List.getElem?_eq_getElem (by omega)⟩
          obtain ⟨z, ez, lb', rfl, hl⟩ := ala.getR el
          have eok : prt h l = okL ls h (fb + j) := by show _ = prt h (ls.getD (fb + j) []); rw [List.getD_eq_getElem?_getD, el]; rfl
          refine ⟨rfl, _, rfl, _, rfl, _, rfl, a, aits, ((fb + j : Nat) : Int), .ref lb', rfl, rfl, SqT.of (s6 _ _ ea5), atI_nat ez, hb', lb', h, l, rfl, tupFix (Fix.of s6) hh5, tupFix (fx5.trans (Fix.of s6)) hl, t3.l3 h (at_mem eh), fun H7 s7 => ⟨_, rfl, ?_⟩⟩
          rw [eok]
          cases cc : okL ls h (fb + j) with
          | true => exact iteT ⟨_, rfl, mf_yes m hD (fun _ _ _ _ _ h => h) en (by rw [List.length_map, List.length_range]; omega) s7 cc rfl⟩
          | false => exact iteF (mf_no m (fun _ _ _ _ _ h => h) en s7 cc)
        · have ey6 := al6.map_eq (f := natV) fun _ _ h => h
          rw [ey6] at e6
          refine ⟨D, _, rfl, .inl ⟨SqL.of e6, fun t ht => ?_⟩⟩
          have s7 := same_new ht (.tup ((((List.range (lc + 1 - fb)).map (fb + ·)).filter fun x => okL ls h x).map natV))
          have et : upd H6 t (.tup ((((List.range (lc + 1 - fb)).map (fb + ·)).filter fun x => okL ls h x).map natV)) t = _ := upd_same
          generalize upd H6 t (.tup ((((List.range (lc + 1 - fb)).map (fb + ·)).filter fun x => okL ls h x).map natV)) = H7 at s7 et ⊢
          have e7 := (s6.trans s7) _ _ e5
          have li : its.length = i := by rw [al4.len, List.length_take, may_len em]; omega
          have lhs := t3.lh
          refine ⟨np, its, .ref t, rfl, rfl, e7, by rw [sizeLine_eq]; omega, its ++ [.ref t], _, _, _, _, rfl, ?_, upd_same, ?_⟩
          · exact fun x o e n => by rw [upd_ne n]; exact (s6.trans s7) _ _ (k5 x o e n)
          · rw [List.take_add_one, may_at eh efb elc]
            refine (al5.imp fun _ _ z => ?_).app (.cons ⟨t, rfl, ?_⟩ .nil)
            · obtain ⟨b', q1, q2⟩ := z
              have nb : b' ≠ np := fun z => by rw [z, e5] at q2; cases q2
              exact ⟨b', q1, by rw [upd_ne nb]; exact (s6.trans s7) _ _ q2⟩
            · have nt : t ≠ np := fun z => by rw [z, e7] at et; cases et
              rw [upd_ne nt]; exact et
      · rintro σ H4 ⟨its, o1, o2, o3, o4, rfl, k4, e4, al4⟩
        rw [List.take_of_length_le (by rw [may_len em, lb]; exact Nat.le_refl _)] at al4
        exact ⟨its, o1, o2, o3, o4, rfl, k13.trans k4, e4, al4, no, em⟩
    rintro σ H2 ⟨its, o1, o2, o3, o4, rfl, k2, e2, al2, no, em⟩
    refine ⟨_, rfl, np, its, rfl, .inl ⟨SqL.of e2, fun l hl => ?_⟩⟩
    have s3 := same_new hl (.tup its)
    exact q no em l its _ ((kin _ k2).trans s3) upd_same (al2.imp fun _ _ t => t.same (Fix.of s3))
end
end K6

namespace K6
open PySem PySem.Spec PyProof.Rows L2 Hb St Sq Ow En Zp RZ Rd Xb Da
local macro_rules | `(tactic| walk_at "sd") => `(tactic| (first
  | decide
  | exact ⟨by decide, by decide⟩
  | exact ⟨by decide, by decide, by decide⟩
  | exact Or.inl ⟨by decide, by decide⟩
  | exact Or.inr ⟨by decide, by decide⟩
  | exact divw (by decide) (by decide)
  | exact divw (by omega) (by omega)
  | exact Or.inl ⟨by omega, by omega⟩
  | exact Or.inr ⟨by omega, by omega⟩
  | (show (0 : Int) < _; omega)))
local macro_rules | `(tactic| walk_at "sq") => `(tactic| (first | exact SqT.of (by assumption) | exact SqL.of (by assumption) | exact SqL.of upd_same | assumption))
local macro_rules | `(tactic| walk_at "rd") => `(tactic| repeat (first
  | refine ⟨_, rfl, ?_⟩
  | refine ⟨_, _, rfl, rfl, (by walk_at "sd"), ?_⟩
  | refine ⟨_, _, rfl, rfl, ?_⟩
  | refine ⟨_, _, _, _, rfl, rfl, (by walk_at "sq"), rfl, ?_⟩
  | refine ⟨_, _, _, _, rfl, rfl, (by first | assumption | exact upd_same), rfl, ?_⟩
  | refine ⟨_, _, rfl, Or.inl (by walk_at "sq"), ?_⟩
  | refine ⟨_, _, rfl, ?_⟩
  | refine Or.inl ⟨_, rfl, ?_⟩
  | refine ⟨rfl, ?_⟩))
/-! ### deals -/
def DealN (H : Hp) (p l : Addr) (ns : List Int) (b : Int) : Prop := H p = some (.lst [.ref l, .int b]) ∧ H l = some (.lst (ns.map V.int)) ∧ p ≠ l ∧ ns.length ≤ 63 ∧ (∀ n ∈ ns, 0 ≤ n) ∧ 0 ≤ b ∧ b < 2 ^ 40
def DealAt (H : Hp) (p l : Addr) : Prop := ∃ ns b, DealN H p l ns b
def Kept2 (p l : Addr) (H H' : Hp) : Prop := ∀ b o, H b = some o → b ≠ p → b ≠ l → H' b = some o
theorem Kept2.refl (p l : Addr) (H : Hp) : Kept2 p l H H := fun _ _ e _ _ => e
theorem Kept2.trans {p l : Addr} {H H1 H2 : Hp} (a : Kept2 p l H H1) (b : Kept2 p l H1 H2) : Kept2 p l H H2 := fun c o e n m => b c o (a c o e n m) n m
theorem Kept2.same {p l : Addr} {H H' : Hp} (s : Same H H') : Kept2 p l H H' := fun b o e _ _ => s b o e
theorem Kept2.p {p l : Addr} {H : Hp} {o : HO} : Kept2 p l H (upd H p o) := fun b u e n _ => by rw [upd_ne n]; exact e
theorem Kept2.l {p l : Addr} {H : Hp} {o : HO} : Kept2 p l H (upd H l o) := fun b u e _ n => by rw [upd_ne n]; exact e
theorem DealAt.same {H H' : Hp} {p l : Addr} (h : DealAt H p l) (s : Same H H') : DealAt H' p l := let ⟨ns, b, a, c, r⟩ := h; ⟨ns, b, s _ _ a, s _ _ c, r⟩
theorem Kept2.fix {p l : Addr} {H H' : Hp} (k : Kept2 p l H H') (d : DealAt H p l) : Fix H H' := fun b o e n => by
  obtain ⟨ns, bb, h1, h2, _⟩ := d
  exact k b o e (fun z => n (by rw [z, h1] at e; exact .inl ⟨_, (Option.some.inj e).symm⟩)) fun z => n (by rw [z, h2] at e; exact .inl ⟨_, (Option.some.inj e).symm⟩)
section
variable {K : PySem.W.Frag} {H : Hp} {Q : VK}
theorem dp_ints : ∀ ns : List Int, DpAll K H (ns.map V.int) (ns.map PyData.int)
  | [] => .nil
  | n :: ns => .cons (.int n) (dp_ints ns)
theorem shp_ints (ns : List Int) : SeqAt.shaped (.list (ns.map PyData.int)) = true := (sh_lst (n := 0) fun x _ => sh_int 0 x).ok (by decide)
theorem eqv_nil (ns : List Int) : PyData.eqv (.list (ns.map PyData.int)) (.list []) = decide (ns = []) := eqvAll_map eqv_int ns []
theorem rd_neNil {l t : Addr} {ns : List Int} (hl : SqL K H l (ns.map V.int)) (ht : SqL K H t []) (q : Q (.bl (!decide (ns = []))) H) : rNeD K (.ref l) (.ref t) H Q :=
  ⟨_, _, .lst hl (dp_ints ns), .lst ht .nil, shp_ints ns, shp_ints [], by rw [eqv_nil]; exact q⟩
end
theorem abs_nn (i : Int) : 0 ≤ (if i < 0 then -i else i) := by
  by_cases h : i < 0
  · rw [if_pos h]; omega
  · rw [if_neg h]; omega
theorem cut_int (ns : List Int) (lo hi : Option Int) : ∃ ms : List Int, cutV (ns.map V.int) lo hi = ms.map V.int ∧ ms.length ≤ ns.length := by
  unfold cutV
  rw [List.length_map]
  refine ⟨_, by rw [List.map_drop.symm, List.map_take.symm], ?_⟩
  rw [List.length_take, List.length_drop]
  omega
section
variable {P : Program} {w : World} {K : PySem.W.Frag} {mg : Str → Option Value} {base : Heap}
/-! ### _law_heap -/
abbrev s__law_heap : Stmt := top 33
theorem sc__law_heap : FnScope ["script", "base", "cell", "cells", "stir"] ["script", "base"] (defScope s__law_heap) := ⟨rfl, rfl, rfl, by decide +kernel, rfl, by decide +kernel, by decide +kernel⟩
def spDeal (K : PySem.W.Frag) : Sp := fun vs H Q _ => ∃ (a : Addr) (ns : List Int), vs = [.ref a, .int 0] ∧ SqL K H a (ns.map V.int) ∧ ns.length ≤ 63 ∧ ∀ p l H', H p = none → H l = none → Same H H' → DealAt H' p l → Q (.ref p) H'
theorem ok_heap {f : Addr} {fd : FuncData} (F : Fun K "_law_heap" "_law_heap" s__law_heap f fd) (n_abs : mg "abs" = none) (n_int : mg "int" = none) : FnOk P w K mg base CX0 1 f fd ["script", "base"] (spDeal K) := by
  refine F.ok sc__law_heap (fun vs H Q E h => ?_) (fun cdv A outer s H vs Q E hr h => ?_)
  · obtain ⟨_, _, rfl, _⟩ := h
    rfl
  · obtain ⟨a, ns, rfl, hs, hl, q⟩ := h
    refine ⟨_, (Evl.pss_cut (ps_setLc (i := 3) (own := [("cell", 2)]) (g := gName 2) (by rfl) sc__law_heap.nd rfl rfl (sw_true rfl rfl rfl (by decide +kernel)) (pi_seq (pe_slice (r := rSlL K) sl_list (pv 0) (po_some (pv 1)) (po_some pe_int))) (blkOk_by (N := ["script", "base", "cell", "cells", "stir"]) (sc := defScope s__law_heap) (by decide +kernel)) (fun _ _ _ _ _ => pg_name (i := 2) sc__law_heap.nd rfl (Or.inl rfl)) (fun _ _ _ _ _ => pts_nil) (fun _ _ _ _ _ => pe_callB call_abs (by rfl) n_abs (by decide +kernel) (pa_cons (pv 2) pa_nil)))
    (pss_cons (ps_set (i := 4) sc__law_heap.nd rfl (Or.inl rfl) (pe_op op_add pe_int (pe_op op_mul pe_int (pv 1))))
    (Evl.pss_cut (ps_for PassesOwn.never rfl (pi_seq (pv 3)) (pg_name (i := 2) sc__law_heap.nd rfl (Or.inl rfl))
      (pss_one (ps_set (i := 4) sc__law_heap.nd rfl (Or.inl rfl) (pe_op op_mod (pe_callTy call_int1 (by rfl) n_int (by decide +kernel) (pa_cons (pe_op op_add (pe_op op_add (pe_op op_mul (pv 4) pe_int) (pe_op op_mod (pe_callTy call_int1 (by rfl) n_int (by decide +kernel) (pa_cons (pv 2) pa_nil)) pe_int)) pe_int) pa_nil)) pe_int))))
    (pss_one (ps_ret (pe_lst (pa_cons (pe_revK K (pe_lc (own := [("cell", 2)]) (g := gName 2) rfl sc__law_heap.nd (pi_seq (pv 3)) (blkOk_by (N := ["script", "base", "cell", "cells", "stir"]) (sc := defScope s__law_heap) (by decide +kernel)) (fun _ _ _ _ _ => pg_name (i := 2) sc__law_heap.nd rfl (Or.inl rfl)) (fun _ _ _ _ _ => pts_one (pt_cmpR op_ge (pv 2) (pe_op op_pow pe_int pe_int) (nomark _))) (fun _ _ _ _ _ => pv 2)) (pe_un un_neg pe_int) (fun _ _ _ q => ⟨1, rfl, q⟩)) (pa_cons (pv 4) pa_nil)))))))), ?_⟩
    refine ⟨fun σ H' => ∃ (c : Addr) (o : Option V) (ms : List Int), σ = [some (.ref a), some (.int 0), o, some (.ref c), none] ∧ Same H H' ∧ H' c = some (.lst (ms.map V.int)) ∧ ms.length ≤ 63 ∧ ∀ m ∈ ms, 0 ≤ m, ?_, ?_⟩
    · refine ⟨_, rfl, _, rfl, 0, rfl, 48, rfl, a, _, rfl, hs, fun p hp => ?_⟩
      have s1 := same_new hp (.lst (cutV (ns.map V.int) (some 0) (some 48)))
      obtain ⟨ms, em, lm⟩ := cut_int ns (some 0) (some 48)
      have e1 : (upd H p (.lst (cutV (ns.map V.int) (some 0) (some 48)))) p = some (.lst (ms.map V.int)) := by rw [upd_same, em]
      generalize upd H p (.lst (cutV (ns.map V.int) (some 0) (some 48))) = H1 at s1 e1 ⊢
      refine ⟨p, _, rfl, SqX.lst e1, fun J S W k D hD => ?_⟩
      refine lc_mf (ds := ms) W (fun _ => true) (fun _ y i => y = .int (if i < 0 then -i else i)) k hD (by rw [List.length_map]) (fun i x z H4 ex ez s4 m => ?_) (fun H4 ys s4 e al => ?_)
      · obtain rfl := at_map ex ez
        exact ⟨rfl, _, rfl, z, rfl, mf_yes m hD (fun _ _ _ _ _ h => h) ez (by omega) (Same.refl _) rfl rfl⟩
      · rw [Rd.filter_all] at al
        obtain rfl := al.map_eq fun _ _ h => h
        refine ⟨D, _, ms.map fun i => if i < 0 then -i else i, rfl, s1.trans s4, by rw [List.map_map]; exact e, by rw [List.length_map]; omega, fun m hm => ?_⟩
        obtain ⟨i, _, rfl⟩ := List.mem_map.mp hm
        exact abs_nn i
    rintro σ H1 ⟨c, o, ms, rfl, s1, e1, lm, pm⟩
    walk_at "rd"
    refine ⟨fun σ H' => ∃ o b, σ = [some (.ref a), some (.int 0), o, some (.ref c), some (.int b)] ∧ H' = H1 ∧ 0 ≤ b ∧ b < 2 ^ 40, ?_, ?_⟩
    · refine ⟨_, rfl, c, _, rfl, SqX.lst e1, fun J S W k => ?_⟩
      refine for_sq W (fun i σ H' => ∃ o b, σ = [some (.ref a), some (.int 0), o, some (.ref c), some (.int b)] ∧ H' = H1 ∧ 0 ≤ b ∧ b < 2 ^ 40) ⟨_, _, rfl, rfl, by decide, by decide⟩ (fun i σ H' p => ?_) ?_ ?_
      · obtain ⟨_, _, _, rfl, _⟩ := p
        exact k
      · rintro i σ H2 x ex ⟨o, b, rfl, rfl, b0, b1⟩
        obtain ⟨z, ez⟩ : ∃ z, ms[i]? = some z := ⟨_, List.getElem?_eq_getElem (by have := (List.getElem?_eq_some_iff.mp ex).1; rwa [List.length_map] at this)⟩
        obtain rfl := at_map ex ez
        walk_at "rd"
        exact ⟨Int.emod_nonneg _ (by decide), by omega⟩
      · rintro σ H2 ⟨o, b, rfl, rfl, b0, b1⟩
        exact ⟨o, b, rfl, rfl, b0, b1⟩
    rintro σ H2 ⟨o2, b, rfl, rfl, b0, b1⟩
    refine ⟨_, rfl, c, _, rfl, SqX.lst e1, fun J S W k D hD => ?_⟩
    refine lc_mf (ds := ms) W (fun m => decide ((10 ^ 18 : Int) ≤ m)) (fun _ y i => y = .int i) k hD (by rw [List.length_map]) (fun i x z H4 ex ez s4 m => ?_) (fun H4 ys s4 e al => ?_)
    · obtain rfl := at_map ex ez
      refine ⟨rfl, _, rfl, _, _, rfl, rfl, ⟨by decide, by decide, by decide⟩, _, _, rfl, rfl, _, rfl, ?_⟩
      refine iteD (fun c => ⟨_, rfl, mf_yes m hD (fun _ _ _ _ _ h => h) ez (by omega) (Same.refl _) (decide_eq_true c) rfl⟩) fun c => mf_no m (fun _ _ _ _ _ h => h) ez (Same.refl _) (decide_eq_false c)
    · obtain rfl := al.map_eq fun _ _ h => h
      refine ⟨D, _, rfl, SqL.of e, fun p hp => ?_⟩
      have s5 := same_new hp (.lst ((ms.filter fun m => decide ((10 ^ 18 : Int) ≤ m)).map V.int).reverse)
      refine ⟨_, rfl, by show 2 ≤ sizeLine; decide, fun d hd => ?_⟩
      have s6 := same_new hd (.lst [.ref p, .int b])
      have s26 := ((s1.trans s4).trans s5).trans s6
      have hpH : H p = none := by
        cases h : H p with
        | none => rfl
        | some o => exact absurd rfl (ne_of_none ((s1.trans s4) _ _ h) hp)
      have hdH : H d = none := by
        cases h : H d with
        | none => rfl
        | some o => exact absurd rfl (ne_of_none (((s1.trans s4).trans s5) _ _ h) hd)
      refine q d p _ hdH hpH s26 ⟨(ms.filter fun m => decide ((10 ^ 18 : Int) ≤ m)).reverse, b, upd_same, ?_, (ne_of_none (upd_same (H := H4) (o := .lst ((ms.filter fun m => decide ((10 ^ 18 : Int) ≤ m)).map V.int).reverse)) hd).symm, ?_, fun n hn => ?_, b0, b1⟩
      · rw [s6 _ _ (show upd H4 p (.lst ((ms.filter fun m => decide ((10 ^ 18 : Int) ≤ m)).map V.int).reverse) p = _ from upd_same), List.map_reverse]
      · rw [List.length_reverse]
        exact Nat.le_trans (List.length_filter_le _ _) lm
      · exact pm n (List.mem_filter.mp (List.mem_reverse.mp hn)).1
theorem last_at (ms : List Int) (z : Int) : (ms.map V.int ++ [V.int z])[(ms.map V.int ++ [V.int z]).length - 1]? = some (V.int z) := by
  rw [List.length_append, List.length_singleton, Nat.add_sub_cancel, List.getElem?_append_right (Nat.le_refl _), Nat.sub_self]; rfl
/-! ### _law_draw -/
abbrev s__law_draw : Stmt := top 34
theorem sc__law_draw : FnScope ["heap", "many", "rest"] ["heap", "many"] (defScope s__law_draw) := ⟨rfl, rfl, rfl, by decide +kernel, rfl, by decide +kernel, by decide +kernel⟩
def spDraw : Sp := fun vs H Q _ => ∃ (p l : Addr) (many : Int), vs = [.ref p, .int many] ∧ (1 ≤ many ∧ many < 2 ^ 30) ∧ DealAt H p l ∧ ∀ d H', 0 ≤ d → d < many → Kept2 p l H H' → DealAt H' p l → Q (.int d) H'
theorem ok_draw {f : Addr} {fd : FuncData} (F : Fun K "_law_draw" "_law_draw" s__law_draw f fd) (n_int : mg "int" = none) : FnOk P w K mg base CX0 1 f fd ["heap", "many"] spDraw := by
  refine F.ok sc__law_draw (fun vs H Q E h => ?_) (fun cdv A outer s H vs Q E hr h => ?_)
  · obtain ⟨_, _, _, rfl, _⟩ := h
    rfl
  · obtain ⟨p, l, many, rfl, hm, ⟨ns0, b, hd0⟩, q⟩ := h
    refine ⟨_, (Evl.pss_cut (ps_while PassesOwn.never (PW.pt (pw_and (pt_cmpR (op_neD hr.units) (pe_ix ix_list (pv 0) pe_int (fun _ _ => rfl)) (pe_lst pa_nil) (nomark _)) (pw_and1 (pt_cmpR op_eq (pe_ix ix_list (pe_ix ix_list (pv 0) pe_int (fun _ _ => rfl)) (pe_un un_neg pe_int) (fun _ _ => rfl)) pe_int (nomark _)))))
      (pss_one (ps_expr (pe_bm0 PySem.F.plainAttrs_list PySem.F.slot_list_pop PySem.F.type_list_pop mt_pop (pe_ix ix_list (pv 0) pe_int (fun _ _ => rfl))))))
    (Evl.pss_cut (ps_if (pt_cmpR (op_neD hr.units) (pe_ix ix_list (pv 0) pe_int (fun _ _ => rfl)) (pe_lst pa_nil) (nomark _)) (pss_cons (ps_set (i := 2) sc__law_draw.nd rfl (Or.inl rfl) (pe_bm0 PySem.F.plainAttrs_list PySem.F.slot_list_pop PySem.F.type_list_pop mt_pop (pe_ix ix_list (pv 0) pe_int (fun _ _ => rfl))))
    (pss_cons (ps_expr (pe_bm PySem.F.plainAttrs_list PySem.F.slot_list_append PySem.F.type_list_append mt_append (pe_ix ix_list (pv 0) pe_int (fun _ _ => rfl)) (pa_cons (pe_op op_fdivW (pv 2) (pv 1)) pa_nil)))
    (pss_one (ps_ret (pe_op op_mod (pe_callTy call_int1 (by rfl) n_int (by decide +kernel) (pa_cons (pv 2) pa_nil)) (pv 1)))))) pss_nil)
    (pss_cons (ps_asg (pe_op op_mod (pe_callTy call_int1 (by rfl) n_int (by decide +kernel) (pa_cons (pe_op op_add (pe_op op_mul (pe_ix ix_list (pv 0) pe_int (fun _ _ => rfl)) pe_int) pe_int) pa_nil)) pe_int) (pg_sub (pv 0) pe_int set_list))
    (pss_one (ps_ret (pe_op op_mod (pe_callTy call_int1 (by rfl) n_int (by decide +kernel) (pa_cons (pe_op op_fdivW (pe_ix ix_list (pv 0) pe_int (fun _ _ => rfl)) pe_int) pa_nil)) (pv 1))))))), ?_⟩
    refine ⟨fun σ H' => σ = [some (.ref p), some (.int many), none] ∧ Kept2 p l H H' ∧ ∃ ns, DealN H' p l ns b, ?_, ?_⟩
    · refine ⟨fun m σ H' => σ = [some (.ref p), some (.int many), none] ∧ Kept2 p l H H' ∧ ∃ ns, ns.length = m ∧ DealN H' p l ns b, ⟨_, rfl, Kept2.refl _ _ _, ns0, rfl, hd0⟩, ?_⟩
      rintro m σ H1 ⟨rfl, k1, ns, lm, hp, hl, npl, ln, pn, b0, b1⟩
      refine ⟨_, rfl, p, _, _, _, rfl, rfl, SqL.of hp, at0, by show 0 ≤ sizeLine; decide, fun t ht => ?_⟩
      have s2 := same_new ht (.lst [])
      have hp2 := s2 _ _ hp
      have hl2 := s2 _ _ hl
      refine rd_neNil (SqL.of hl2) (SqL.of upd_same) ?_
      have k2 := k1.trans (Kept2.same (p := p) (l := l) s2)
      refine ⟨_, rfl, ?_⟩
      rcases List.eq_nil_or_concat ns with e | ⟨ms, z, e⟩
      · subst e
        exact iteF ⟨rfl, k2, [], hp2, hl2, npl, ln, pn, b0, b1⟩
      rw [List.concat_eq_append] at e
      subst e
      rw [decide_eq_false (by simp)]
      have em : (ms ++ [z]).map V.int = ms.map V.int ++ [V.int z] := by rw [List.map_append]; rfl
      rw [em] at hl2
      generalize upd H1 t (.lst []) = H2 at s2 hp2 hl2 k2 ⊢
      refine iteT ⟨_, rfl, p, _, _, _, rfl, rfl, SqL.of hp2, at0, 1, rfl, l, _, _, _, rfl, rfl, SqL.of hl2, at_last, rfl, _, rfl, ?_⟩
      refine iteD (fun c => ?_) fun c => ⟨rfl, k2, ms ++ [z], hp2, em ▸ hl2, npl, ln, pn, b0, b1⟩
      refine ⟨fun σ H' => σ = [some (.ref p), some (.int many), none] ∧ Kept2 p l H H' ∧ ∃ ns, ns.length < m ∧ DealN H' p l ns b, fun σ' H' ⟨e1, e2, ns, e3, e4⟩ => ⟨ns.length, e3, e1, e2, ns, rfl, e4⟩, ?_⟩
      refine ⟨_, rfl, p, _, _, _, rfl, rfl, SqL.of hp2, at0, .inl ⟨rfl, _, SqL.of hl2⟩, l, _, .int z, rfl, rfl, hl2, last_at _ _, rfl, k2.trans Kept2.l, ms, by rw [← lm]; simp, ?_⟩
      rw [List.dropLast_concat]
      exact ⟨by rw [upd_ne npl]; exact hp2, upd_same, npl, by simp at ln; omega, fun n hn => pn n (List.mem_append_left _ hn), b0, b1⟩
    rintro σ H1 ⟨rfl, k1, ns, hp, hl, npl, ln, pn, b0, b1⟩
    have lp := npl.symm
    refine ⟨fun σ H' => σ = [some (.ref p), some (.int many), none] ∧ Kept2 p l H H' ∧ ∃ ns, DealN H' p l ns b, ?_, ?_⟩
    · refine ⟨_, rfl, p, _, _, _, rfl, rfl, SqL.of hp, at0, by show 0 ≤ sizeLine; decide, fun t ht => ?_⟩
      have s2 := same_new ht (.lst [])
      have hp2 := s2 _ _ hp
      have hl2 := s2 _ _ hl
      refine rd_neNil (SqL.of hl2) (SqL.of upd_same) ?_
      have k2 := k1.trans (Kept2.same (p := p) (l := l) s2)
      refine ⟨_, rfl, ?_⟩
      rcases List.eq_nil_or_concat ns with e | ⟨ms, z, e⟩
      · subst e
        exact iteF ⟨rfl, k2, [], hp2, hl2, npl, ln, pn, b0, b1⟩
      rw [List.concat_eq_append] at e
      subst e
      rw [decide_eq_false (by simp)]
      have em : (ms ++ [z]).map V.int = ms.map V.int ++ [V.int z] := by rw [List.map_append]; rfl
      rw [em] at hl2
      generalize upd H1 t (.lst []) = H2 at s2 hp2 hl2 k2 ⊢
      have z0 : 0 ≤ z := pn z (by simp)
      refine iteT ⟨_, rfl, p, _, _, _, rfl, rfl, SqL.of hp2, at0, .inl ⟨rfl, _, SqL.of hl2⟩, l, _, .int z, rfl, rfl, hl2, last_at _ _, ?_⟩
      rw [List.dropLast_concat]
      have hp3 : upd H2 l (.lst (ms.map V.int)) p = some (.lst [.ref l, .int b]) := by rw [upd_ne npl]; exact hp2
      have hl3 : upd H2 l (.lst (ms.map V.int)) l = some (.lst (ms.map V.int)) := upd_same
      have k3 := k2.trans (Kept2.l (p := p) (l := l) (H := H2) (o := .lst (ms.map V.int)))
      generalize upd H2 l (.lst (ms.map V.int)) = H3 at hp3 hl3 k3 ⊢
      have lms : ms.length + 1 ≤ 63 := by simpa using ln
      refine ⟨_, rfl, p, _, _, _, rfl, rfl, SqL.of hp3, at0, .inl ⟨rfl, _, SqL.of hl3⟩, _, rfl, _, rfl, _, _, rfl, rfl, divw (by omega) (by omega), l, _, _, rfl, rfl, hl3, by rw [List.length_map, sizeLine_eq]; omega, ?_⟩
      refine ⟨_, rfl, .inl ⟨_, rfl, _, rfl, _, _, rfl, rfl, (by show (0 : Int) < _; omega), ?_⟩⟩
      refine q _ _ (Int.emod_nonneg _ (by omega)) (Int.emod_lt_of_pos _ (by omega)) (k3.trans Kept2.l) ⟨ms ++ [z / many], b, by rw [upd_ne npl]; exact hp3, by rw [upd_same, List.map_append]; rfl, npl, by simp; omega, fun n hn => ?_, b0, b1⟩
      rcases List.mem_append.mp hn with h | h
      · exact pn n (List.mem_append_left _ h)
      · rw [List.mem_singleton.mp h]; exact Int.ediv_nonneg z0 (by omega)
    rintro σ H2 ⟨rfl, k2, ns2, hp2, hl2, _, ln2, pn2, b0, b1⟩
    refine ⟨_, rfl, p, _, _, _, rfl, rfl, SqL.of hp2, at1, ?_⟩
    walk_at "rd"
    exact q _ _ (Int.emod_nonneg _ (by omega)) (Int.emod_lt_of_pos _ (by omega)) (k2.trans Kept2.p) ⟨ns2, (b * 48271 + 11) % 2147483647, upd_same, by rw [upd_ne lp]; exact hl2, npl, ln2, pn2, Int.emod_nonneg _ (by decide), by omega⟩
end
end K6

namespace K6
open PySem PySem.Spec PyProof.Rows L2 Hb St Sq Ow En Zp RZ Rd Xb Da
section
variable {P : Program} {w : World} {K : PySem.W.Frag} {mg : Str → Option Value} {base : Heap}
/-! ### _law_pick -/
abbrev s__law_pick : Stmt := top 35
theorem sc__law_pick : FnScope ["heap", "some"] ["heap", "some"] (defScope s__law_pick) := ⟨rfl, rfl, rfl, by decide +kernel, rfl, by decide +kernel, by decide +kernel⟩
def spPick (K : PySem.W.Frag) : Sp := fun vs H Q _ => ∃ (p l s : Addr) (xs : List V), vs = [.ref p, .ref s] ∧ DealAt H p l ∧ (∀ H', Kept2 p l H H' → SqX K H' s xs) ∧ (1 ≤ xs.length ∧ xs.length ≤ 1000) ∧ ∀ x H', x ∈ xs → Kept2 p l H H' → DealAt H' p l → Q x H'
theorem ok_pick {f : Addr} {fd : FuncData} (F : Fun K "_law_pick" "_law_pick" s__law_pick f fd) (C__law_draw : Cl P w K mg base "_law_draw" ["heap", "many"] [] 1 spDraw) (n_len : mg "len" = none) : FnOk P w K mg base CX0 2 f fd ["heap", "some"] (spPick K) := by
  refine F.ok sc__law_pick (fun vs H Q E h => ?_) (fun cdv A outer s H vs Q E hr h => ?_)
  · obtain ⟨_, _, _, _, rfl, _⟩ := h
    rfl
  · obtain ⟨p, l, s, xs, rfl, hd, hs, hn, q⟩ := h
    refine ⟨_, (pss_one (ps_ret (pe_ix (r := rIx K) ix_seq (pv 1) (pe_use C__law_draw (hr.mono (by decide)) rfl (pa_cons (pv 0) (pa_cons (pe_callB call_len_seq (by rfl) n_len PySem.boot_len (pa_cons (pv 1) pa_nil)) pa_nil))) (fun _ _ => rfl)))), ?_⟩
    have len : ∃ p' ys, [V.ref s] = [V.ref p'] ∧ (SqL K H p' ys ∨ SqT K H p' ys) ∧ ys = xs := ⟨s, xs, rfl, hs H (Kept2.refl _ _ _), rfl⟩
    refine ⟨_, rfl, _, rfl, _, rfl, s, xs, rfl, hs H (Kept2.refl _ _ _), p, l, _, rfl, ?_, hd, fun d H' d0 d1 k b => ?_⟩
    · omega
    · have hdn : d.toNat < xs.length := by omega
      have e : d = ((d.toNat : Nat) : Int) := by omega
      obtain ⟨x, hx⟩ : ∃ x, xs[d.toNat]? = some x := ⟨_, List.getElem?_eq_getElem hdn⟩
      have hat : atI xs d = some x := by rw [e]; exact at_nat hx
      have qq := q _ H' (List.mem_of_getElem? hx) k b
      rcases hs H' k with hs | hs
      · exact .inl ⟨s, _, d, x, rfl, rfl, hs, hat, qq⟩
      · exact .inr (.inl ⟨s, _, d, x, rfl, rfl, hs, hat, qq⟩)
end
end K6

/-! comprehensions whose items draw from a box; texts without doubles -/
namespace Lg
open PySem PySem.Spec PyProof.Rows L2 Hb St Sq
/-- a comprehension: M stands ahead of the i-th item -/
theorem lc_go {J : It} {a : Addr} {S : Hp → Prop} {xs : List V} (W : Wk J a S xs) {g : TG} {tt : TT} {te : TE} {vs : List Nat} {σ : L2.St} {H1 : Hp} {D : Addr} {Qd : Hp → Prop} (M : Nat → Hp → Prop)
    (h0 : M 0 (upd H1 D (.lst []))) (stand : ∀ i H, M i H → S H)
    (hs : ∀ i x H, xs[i]? = some x → M i H → g x (wipe σ vs) H fun σ2 H2 => wipe σ2 vs = wipe σ vs ∧ tt σ2 H2 fun b H3 =>
      if b = true then te σ2 H3 fun y H4 => ∃ acc, H4 D = some (.lst acc) ∧ acc.length < sizeLine ∧ M (i + 1) (upd H4 D (.lst (acc ++ [y]))) else M (i + 1) H3)
    (hd : ∀ H, M xs.length H → Qd H) :
    ∃ W : Nat → Nat → Hp → Prop, (∃ m, W 0 m (upd H1 D (.lst []))) ∧ ∀ i m H, W i m H →
      (J.stop i H ∧ Qd H) ∨ (J.go i H ∧ ∃ Nx : Hp → Prop, (∀ H', Nx H' → ∃ m', m' < m ∧ W (i + 1) m' H') ∧ ∀ v H', J.yld i H v H' → g v (wipe σ vs) H' fun σ2 H2 => wipe σ2 vs = wipe σ vs ∧ tt σ2 H2 fun b H3 =>
        if b = true then te σ2 H3 fun y H4 => ∃ acc, H4 D = some (.lst acc) ∧ acc.length < sizeLine ∧ Nx (upd H4 D (.lst (acc ++ [y]))) else Nx H3) := by
  refine ⟨fun i m H => m + i = xs.length ∧ M i H, ⟨xs.length, rfl, h0⟩, fun i m H ⟨e, p⟩ => ?_⟩
  cases m with
  | zero =>
    obtain rfl : i = xs.length := by omega
    exact .inl ⟨W.stop H (stand _ _ p), hd H p⟩
  | succ m =>
    have hi : i < xs.length := by omega
    refine .inr ⟨W.go i H hi (stand _ _ p), M (i + 1), fun H' p' => ⟨m, Nat.lt_succ_self m, by omega, p'⟩, fun v H' y => ?_⟩
    obtain ⟨rfl, ev⟩ := W.yld i H v H' hi (stand _ _ p) y
    exact hs i v H' ev p
theorem sub_yes {α : Type} {xs ns : List α} {i : Nat} {x : α} (s : xs.Sublist (ns.take i)) (e : ns[i]? = some x) : (xs ++ [x]).Sublist (ns.take (i + 1)) := by
  rw [List.take_add_one, e]
  exact s.append (List.Sublist.refl _)
theorem sub_no {α : Type} {xs ns : List α} {i : Nat} (s : xs.Sublist (ns.take i)) : xs.Sublist (ns.take (i + 1)) := by
  rw [List.take_add_one]
  exact s.trans (List.sublist_append_left _ _)
end Lg

namespace K6
open PySem PySem.Spec PyProof.Rows L2 Hb St Sq Ow En Zp RZ Rd Xb Da Lg
def LotH (H : Hp) (v : V) (l : List Str) : Prop := ∃ b, v = .ref b ∧ H b = some (.tup (l.map V.str))
theorem LotH.fix {H H' : Hp} {v : V} {l : List Str} (h : LotH H v l) (s : Fix H H') : LotH H' v l := let ⟨b, e, t⟩ := h; ⟨b, e, s _ _ t (not_mut_tup _)⟩
def LotOk (ns l : List Str) : Prop := l ≠ [] ∧ l.Pairwise sLt ∧ ∀ x ∈ l, x ∈ ns
structure NsOk (ns : List Str) : Prop where
  nd : ns.Nodup
  ne : ns ≠ []
  ln : ns.length ≤ 4
  nm : ∀ x ∈ ns, IsNm x
/-- all is kept but the box and the thing at t -/
def Kept3 (p l t : Addr) (H H' : Hp) : Prop := ∀ b o, H b = some o → b ≠ p → b ≠ l → b ≠ t → H' b = some o
theorem Kept3.refl (p l t : Addr) (H : Hp) : Kept3 p l t H H := fun _ _ e _ _ _ => e
theorem Kept3.two {p l t : Addr} {H H1 H2 : Hp} (a : Kept3 p l t H H1) (b : Kept2 p l H1 H2) : Kept3 p l t H H2 := fun c o e n m k => b c o (a c o e n m k) n m
theorem Kept3.put {p l t : Addr} {H H1 : Hp} {o : HO} (a : Kept3 p l t H H1) : Kept3 p l t H (upd H1 t o) := fun c u e n m k => by rw [upd_ne k]; exact a c u e n m k
theorem Kept2.of3 {p l t : Addr} {H H' : Hp} (a : Kept3 p l t H H') (n : H t = none) : Kept2 p l H H' := fun c o e x y => a c o e x y (ne_of_none e n)
theorem DealAt.ne_tup {H : Hp} {p l b : Addr} {xs : List V} (d : DealAt H p l) (e : H b = some (.tup xs)) : b ≠ p ∧ b ≠ l := by
  obtain ⟨ns, bb, h1, h2, _⟩ := d
  exact ⟨fun z => by (rw [z, h1] at e; cases e), fun z => by (rw [z, h2] at e; cases e)⟩
theorem DealAt.ne_none {H : Hp} {p l b : Addr} (d : DealAt H p l) (e : H b = none) : b ≠ p ∧ b ≠ l := by
  obtain ⟨ns, bb, h1, h2, _⟩ := d
  exact ⟨fun z => by (rw [z, h1] at e; cases e), fun z => by (rw [z, h2] at e; cases e)⟩
theorem DealAt.put {H : Hp} {p l t : Addr} {o : HO} (d : DealAt H p l) (n : p ≠ t) (m : l ≠ t) : DealAt (upd H t o) p l := by
  obtain ⟨ns, b, h1, h2, r⟩ := d
  exact ⟨ns, b, by rw [upd_ne n]; exact h1, by rw [upd_ne m]; exact h2, r⟩
theorem LotH.dp {K : PySem.W.Frag} {H : Hp} {v : V} {l : List Str} (h : LotH H v l) : Dp K H v (.tuple (l.map .str)) := let ⟨_, e, t⟩ := h; e ▸ .tup (SqT.of t) (dp_strs l)
theorem sh_lot {l : List Str} (h : ∀ x ∈ l, IsNm x) : Sh 1 (.tuple (l.map .str)) := sh_tup fun x hx => sh_str (h x hx)
theorem eqv_none (d : PyData) : ∀ ds : List PyData, PyData.eqv (.list ds) (.list []) = decide (ds = [])
  | [] => rfl
  | _ :: _ => rfl
theorem LotH.put {H : Hp} {v : V} {l : List Str} {t : Addr} {ys : List V} {o : HO} (h : LotH H v l) (e : H t = some (.lst ys)) : LotH (upd H t o) v l := by
  obtain ⟨b, ev, eb⟩ := h
  exact ⟨b, ev, by rw [upd_ne (fun z => by rw [z, e] at eb; cases eb)]; exact eb⟩
theorem lotOk_sort {ns xs ys : List Str} (ok : NsOk ns) (s : xs.Sublist ns) (pm : ys.Perm xs) (so : sortedS ys = true) : ys.Pairwise sLt ∧ ∀ x ∈ ys, x ∈ ns :=
  ⟨sorted_asc so (pm.nodup_iff.mpr (s.nodup ok.nd)), fun x hx => s.subset (pm.subset hx)⟩
theorem all2_snoc {α β : Type} {R : α → β → Prop} : ∀ {xs : List α} {ys : List β} {y : β}, All2 R xs (ys ++ [y]) → ∃ zs z, xs = zs ++ [z] ∧ R z y ∧ All2 R zs ys
  | _, [], _, h => by
    cases h with
    | cons r t =>
      cases t
      exact ⟨[], _, rfl, r, .nil⟩
  | _, b :: ys, y, h => by
    cases h with
    | cons r t =>
      obtain ⟨zs, z, e, h1, h2⟩ := all2_snoc t
      exact ⟨_ :: zs, z, by rw [e]; rfl, h1, .cons r h2⟩
section
variable {P : Program} {w : World} {K : PySem.W.Frag} {mg : Str → Option Value} {base : Heap}
/-! ### _law_tale -/
abbrev s__law_tale : Stmt := top 36
theorem sc__law_tale : FnScope ["heap", "names", "most", "lots", "turn", "lot", "form", "name"] ["heap", "names", "most"] (defScope s__law_tale) := ⟨rfl, rfl, rfl, by decide +kernel, rfl, by decide +kernel, by decide +kernel⟩
def spTale : Sp := fun vs H Q _ => ∃ (p l nb : Addr) (many : Int) (ns : List Str), vs = [.ref p, .ref nb, .int many] ∧ DealAt H p l ∧ H nb = some (.tup (ns.map V.str)) ∧ (0 ≤ many ∧ many ≤ 7) ∧ NsOk ns ∧
  ∀ t its lots H', H t = none → Kept2 p l H H' → DealAt H' p l → H' t = some (.lst its) → All2 (LotH H') its lots → (∀ x ∈ lots, LotOk ns x) → ((lots.length : Nat) : Int) ≤ many → Q (.ref t) H'
theorem ok_tale {f : Addr} {fd : FuncData} (F : Fun K "_law_tale" "_law_tale" s__law_tale f fd) (C__law_draw : Cl P w K mg base "_law_draw" ["heap", "many"] [] 1 spDraw) (C__law_pick : Cl P w K mg base "_law_pick" ["heap", "some"] [] 2 (spPick K)) (n_range : mg "range" = none) (n_sorted : mg "sorted" = none) (n_tuple : mg "tuple" = none) : FnOk P w K mg base CX0 3 f fd ["heap", "names", "most"] spTale := by
  refine F.ok sc__law_tale (fun vs H Q E h => ?_) (fun cdv A outer s H vs Q E hr h => ?_)
  · obtain ⟨_, _, _, _, _, rfl, _⟩ := h
    rfl
  · obtain ⟨p, l, nb, many, ns, rfl, hd, hn, hm, ok, q⟩ := h
    refine ⟨_, (pss_cons (ps_set (i := 3) sc__law_tale.nd rfl (Or.inl rfl) (pe_lst pa_nil))
    (Evl.pss_cut (ps_for PassesOwn.never rfl (pi_range1 (by rfl) n_range (pa_cons (pe_use C__law_draw (hr.mono (by decide)) rfl (pa_cons (pv 0) (pa_cons (pe_op op_add (pv 2) pe_int) pa_nil))) pa_nil)) (pg_name (i := 4) sc__law_tale.nd rfl (Or.inl rfl))
      (pss_cons (ps_set (i := 5) sc__law_tale.nd rfl (Or.inl rfl) (pe_callTy call_tuple_of (by rfl) n_tuple (by decide +kernel) (pa_cons (pe_callB cr_sortedS (by rfl) n_sorted (by decide +kernel) (pa_cons (pe_lc (own := [("name", 7)]) (g := gName 7) rfl sc__law_tale.nd (pi_seq (pv 1)) (blkOk_by (N := ["heap", "names", "most", "lots", "turn", "lot", "form", "name"]) (sc := defScope s__law_tale) (by decide +kernel)) (fun _ _ _ _ _ => pg_name (i := 7) sc__law_tale.nd rfl (Or.inl rfl)) (fun _ _ _ _ _ => pts_one (pt_cmpR op_eq (pe_use C__law_draw (hr.mono (by decide)) rfl (pa_cons (pv 0) (pa_cons pe_int pa_nil))) pe_int (nomark _))) (fun _ _ _ _ _ => pv 7)) pa_nil)) pa_nil)))
    (pss_cons (ps_set (i := 6) sc__law_tale.nd rfl (Or.inl rfl) (pe_use C__law_draw (hr.mono (by decide)) rfl (pa_cons (pv 0) (pa_cons pe_int pa_nil))))
    (Evl.pss_cut (ps_set (i := 5) sc__law_tale.nd rfl (Or.inl rfl) (pe_ifExp (PW.pt (pw_and (pt_cmpR op_eq (pv 6) pe_int (nomark _)) (pw_and1 (pt_cmpR (op_neD hr.units) (pv 3) (pe_lst pa_nil) (nomark _))))) (pe_ix ix_list (pv 3) (pe_un un_neg pe_int) (fun _ _ => rfl)) (pe_ifExp (PW.pt (pw_or (pt_cmpR (op_eqD hr.units) (pv 5) (pe_tup pa_nil) (nomark _)) (pw_or1 (pt_cmpR op_eq (pv 6) pe_int (nomark _))))) (pe_tup (pa_cons (pe_use C__law_pick (hr.mono (by decide)) rfl (pa_cons (pv 0) (pa_cons (pv 1) pa_nil))) pa_nil)) (pv 5))))
    (pss_one (ps_expr (pe_bm PySem.F.plainAttrs_list PySem.F.slot_list_append PySem.F.type_list_append mt_append (pv 3) (pa_cons (pv 5) pa_nil))))))))
    (pss_one (ps_ret (pv 3))))), ?_⟩
    refine ⟨by show 0 ≤ sizeLine; decide, fun tp ktp => ?_⟩
    obtain ⟨tp1, tp2⟩ := hd.ne_none ktp
    have s1 := same_new ktp (.lst [])
    have etp : upd H tp (.lst []) tp = some (.lst []) := upd_same
    have hd1 := hd.same s1
    have hn1 := s1 _ _ hn
    have kin : ∀ H', Kept3 p l tp (upd H tp (.lst [])) H' → Kept2 p l H H' := fun H' k b o e x y => k b o (s1 _ _ e) x y (ne_of_none e ktp)
    generalize upd H tp (.lst []) = H1 at s1 etp hd1 hn1 kin ⊢
    obtain ⟨nb1, nb2⟩ := hd1.ne_tup hn1
    have nb3 : nb ≠ tp := fun z => by rw [z, etp] at hn1; cases hn1
    let St : L2.St → Prop := fun σ => ∃ o4 o5 o6 o7, σ = [some (.ref p), some (.ref nb), some (.int many), some (.ref tp), o4, o5, o6, o7]
    let Inv : Hp → Nat → Prop := fun H' n => ∃ its lots, Kept3 p l tp H1 H' ∧ DealAt H' p l ∧ H' tp = some (.lst its) ∧ All2 (LotH H') its lots ∧ (∀ x ∈ lots, LotOk ns x) ∧ lots.length = n
    refine ⟨fun σ H' => St σ ∧ ∃ n, Inv H' n ∧ ((n : Nat) : Int) ≤ many, ?_, ?_⟩
    · refine ⟨_, rfl, _, rfl, _, _, rfl, rfl, p, l, many + 1, rfl, by omega, hd1, fun d H2 d0 d1 k2 hd2 => ?_⟩
      have k02 : Kept3 p l tp H1 H2 := fun b o e x y _ => k2 b o e x y
      refine ⟨d, rfl, by omega, by omega, ?_⟩
      refine for_sq (wk_range (a := tp)) (fun i σ H' => St σ ∧ Inv H' i) ⟨⟨none, none, none, none, rfl⟩, [], [], k02, hd2, k2 _ _ etp tp1 tp2, .nil, (fun x hx => by cases hx), rfl⟩ (fun _ _ _ _ => trivial) ?_ ?_
      · rintro i σ H3 x ex ⟨⟨o4, o5, o6, o7, rfl⟩, its, lots, k3, hd3, et3, al3, okl, ln⟩
        have hi : i < d.toNat := by
          have := (List.getElem?_eq_some_iff.mp ex).1
          rw [List.length_map, List.length_range] at this
          omega
        have hn3 : H3 nb = some (.tup (ns.map V.str)) := k3 _ _ hn1 nb1 nb2 nb3
        refine ⟨_, rfl, nb, _, rfl, SqX.tup hn3, fun J S W z0 D hD => ?_⟩
        obtain ⟨D1, D2⟩ := hd3.ne_none hD
        have D3 : D ≠ tp := (ne_of_none et3 hD).symm
        have D4 : D ≠ nb := (ne_of_none hn3 hD).symm
        refine lc_go W (fun j H' => Kept2 p l H3 H' ∧ DealAt H' p l ∧ ∃ xs : List Str, H' D = some (.lst (xs.map V.str)) ∧ xs.Sublist (ns.take j)) ⟨?_, ?_, [], upd_same, List.nil_sublist _⟩ (fun j H' m => W.keep (fun o e => by rw [hn3] at e; cases e; exact m.1 _ _ hn3 nb1 nb2) z0) ?_ ?_
        · exact fun b o e _ _ => by rw [upd_ne (ne_of_none e hD)]; exact e
        · exact hd3.put D1.symm D2.symm
        · rintro j y H4 ey ⟨k4, hd4, xs, eD, sub⟩
          obtain ⟨nm, en⟩ : ∃ nm, ns[j]? = some nm := ⟨_, List.getElem?_eq_getElem (by have := (List.getElem?_eq_some_iff.mp ey).1; rwa [List.length_map] at this)⟩
          obtain rfl := at_map ey en
          refine ⟨rfl, _, rfl, p, l, 2, rfl, by decide, hd4, fun d' H5 _ _ k5 hd5 => ?_⟩
          have eD5 := k5 _ _ eD D1 D2
          have lx : xs.length ≤ 4 := Nat.le_trans sub.length_le (Nat.le_trans (List.length_take_le' ..) ok.ln)
          refine ⟨rfl, _, rfl, iteD (fun c => ⟨_, rfl, _, eD5, by rw [List.length_map, sizeLine_eq]; omega, fun b o e x y => ?_, hd5.put D1.symm D2.symm, xs ++ [nm], by rw [upd_same, List.map_append]; rfl, sub_yes sub en⟩) fun c => ⟨k4.trans k5, hd5, xs, eD5, sub_no sub⟩⟩
          rw [upd_ne (ne_of_none e hD)]
          exact (k4.trans k5) b o e x y
        · rintro H4 ⟨k4, hd4, xs, eD, sub⟩
          rw [List.length_map, List.take_length] at sub
          refine ⟨D, xs, rfl, SqL.of eD, by have := sub.length_le; have := ok.ln; omega, fun ys sp pm so ksp => ⟨sp, _, rfl, .inl ⟨SqL.of upd_same, fun tq ktq => ?_⟩⟩⟩
          obtain ⟨asc, inn⟩ := lotOk_sort ok sub pm so
          have s5 := (same_new ksp (.lst (ys.map V.str))).trans (same_new ktq (.tup (ys.map V.str)))
          have eq5 : upd (upd H4 sp (.lst (ys.map V.str))) tq (.tup (ys.map V.str)) tq = some (.tup (ys.map V.str)) := upd_same
          generalize upd (upd H4 sp (.lst (ys.map V.str))) tq (.tup (ys.map V.str)) = H5 at s5 eq5 ⊢
          have hd5 := hd4.same s5
          refine ⟨_, rfl, p, l, 4, rfl, by decide, hd5, fun fm H6 _ _ k6 hd6 => ?_⟩
          have k36 : Kept2 p l H3 H6 := k4.trans ((Kept2.same s5).trans k6)
          have et6 : H6 tp = some (.lst its) := k36 _ _ et3 tp1 tp2
          have al6 := al3.imp fun _ _ t => t.fix (k36.fix hd3)
          obtain ⟨q1, q2⟩ := hd5.ne_tup eq5
          have eq6 := k6 _ _ eq5 q1 q2
          refine ⟨fun σ H' => ∃ v lot, σ = [some (.ref p), some (.ref nb), some (.int many), some (.ref tp), some x, some v, some (.int fm), o7] ∧ Kept2 p l H6 H' ∧ DealAt H' p l ∧ LotH H' v lot ∧ LotOk ns lot, ?_, ?_⟩
          · refine ⟨_, rfl, rfl, _, rfl, ?_⟩
            by_cases c1 : fm = 0
            · rw [decide_eq_true (by rw [c1])]
              refine iteT ⟨_, rfl, by show 0 ≤ sizeLine; decide, fun t7 kt7 => ?_⟩
              have s7 := same_new kt7 (.lst [])
              have e7 : upd H6 t7 (.lst []) t7 = some (.lst []) := upd_same
              generalize upd H6 t7 (.lst []) = H7 at s7 e7 ⊢
              have al7 := al6.imp fun _ _ t => t.fix (Fix.of s7)
              refine ⟨.list (lots.map fun l => .tuple (l.map .str)), .list [], .lst (SqL.of (s7 _ _ et6)) (dp_all (fun _ _ h => h.dp) al7), .lst (SqL.of e7) .nil, (sh_lst (n := 1) fun l hl => sh_lot fun x hx => ok.nm x ((okl l hl).2.2 x hx)).ok (by decide), by decide, _, rfl, ?_⟩
              rcases List.eq_nil_or_concat lots with el | ⟨ms, z, el⟩
              · rw [el]
                refine iteF ?_
                refine ⟨_, rfl, by show 0 ≤ sizeLine; decide, fun t8 kt8 => ?_⟩
                have s8 := same_new kt8 (.tup [])
                have e8 : upd H7 t8 (.tup []) t8 = some (.tup []) := upd_same
                generalize upd H7 t8 (.tup []) = H8 at s8 e8 ⊢
                have eq8 := (s7.trans s8) _ _ eq6
                have hd8 := hd6.same (s7.trans s8)
                have hn8 : H8 nb = some (.tup (ns.map V.str)) := (s7.trans s8) _ _ (k36 _ _ hn3 nb1 nb2)
                refine ⟨.tuple (ys.map .str), .tuple [], .tup (SqT.of eq8) (dp_strs _), .tup (SqT.of e8) .nil, (sh_lot fun x hx => ok.nm x (inn x hx)).ok (by decide), by decide, _, rfl, ?_⟩
                rw [show PyData.eqv (.tuple (ys.map .str)) (.tuple []) = decide (ys = []) from eqvAll_map eqv_str ys []]
                by_cases cy : ys = []
                · rw [decide_eq_true cy]
                  refine iteT (iteT ?_)
                  refine ⟨_, rfl, _, rfl, p, l, nb, ns.map V.str, rfl, hd8, fun H' k => SqX.tup (k _ _ hn8 nb1 nb2), ⟨by rw [List.length_map]; have := List.length_pos_iff.mpr ok.ne; omega, by rw [List.length_map]; have := ok.ln; omega⟩, fun xx H9 hx k9 hd9 => ⟨by show 1 ≤ sizeLine; decide, fun t9 kt9 => ?_⟩⟩
                  obtain ⟨nm, hnm, rfl⟩ := List.mem_map.mp hx
                  have s9 := same_new kt9 (.tup [V.str nm])
                  exact ⟨_, [nm], rfl, ((Kept2.same (s7.trans s8)).trans k9).trans (Kept2.same s9), hd9.same s9, ⟨t9, rfl, upd_same⟩, by simp, List.pairwise_singleton _ _, fun x hx => by rw [List.mem_singleton.mp hx]; exact hnm⟩
                · rw [decide_eq_false cy]
                  refine iteF ⟨_, rfl, rfl, _, rfl, ?_⟩
                  by_cases c2 : fm = 1
                  · rw [decide_eq_true (by rw [c2])]
                    refine iteT ?_
                    refine ⟨_, rfl, _, rfl, p, l, nb, ns.map V.str, rfl, hd8, fun H' k => SqX.tup (k _ _ hn8 nb1 nb2), ⟨by rw [List.length_map]; have := List.length_pos_iff.mpr ok.ne; omega, by rw [List.length_map]; have := ok.ln; omega⟩, fun xx H9 hx k9 hd9 => ⟨by show 1 ≤ sizeLine; decide, fun t9 kt9 => ?_⟩⟩
                    obtain ⟨nm, hnm, rfl⟩ := List.mem_map.mp hx
                    have s9 := same_new kt9 (.tup [V.str nm])
                    exact ⟨_, [nm], rfl, ((Kept2.same (s7.trans s8)).trans k9).trans (Kept2.same s9), hd9.same s9, ⟨t9, rfl, upd_same⟩, by simp, List.pairwise_singleton _ _, fun x hx => by rw [List.mem_singleton.mp hx]; exact hnm⟩
                  · rw [decide_eq_false (fun e => c2 (by injection e))]
                    exact iteF ⟨_, rfl, _, ys, rfl, Kept2.same (s7.trans s8), hd8, ⟨tq, rfl, eq8⟩, cy, asc, inn⟩
              · rw [List.concat_eq_append] at el
                subst el
                rw [show PyData.eqv (.list ((ms ++ [z]).map fun l => .tuple (l.map .str))) (.list []) = false by cases ms <;> rfl]
                obtain ⟨jts, vz, rfl, hvz, alz⟩ := all2_snoc al7
                refine iteT ⟨_, rfl, 1, rfl, tp, _, (-1 : Int), vz, rfl, rfl, SqL.of (s7 _ _ et6), atI_last _ _, vz, z, rfl, Kept2.same s7, hd6.same s7, hvz, okl z (List.mem_append_right _ (List.mem_singleton.mpr rfl))⟩
            · rw [decide_eq_false (fun e => c1 (by injection e))]
              have s7 := Same.refl H6
              refine iteF ?_
              refine ⟨_, rfl, by show 0 ≤ sizeLine; decide, fun t8 kt8 => ?_⟩
              have s8 := same_new kt8 (.tup [])
              have e8 : upd H6 t8 (.tup []) t8 = some (.tup []) := upd_same
              generalize upd H6 t8 (.tup []) = H8 at s8 e8 ⊢
              have eq8 := (s7.trans s8) _ _ eq6
              have hd8 := hd6.same (s7.trans s8)
              have hn8 : H8 nb = some (.tup (ns.map V.str)) := (s7.trans s8) _ _ (k36 _ _ hn3 nb1 nb2)
              refine ⟨.tuple (ys.map .str), .tuple [], .tup (SqT.of eq8) (dp_strs _), .tup (SqT.of e8) .nil, (sh_lot fun x hx => ok.nm x (inn x hx)).ok (by decide), by decide, _, rfl, ?_⟩
              rw [show PyData.eqv (.tuple (ys.map .str)) (.tuple []) = decide (ys = []) from eqvAll_map eqv_str ys []]
              by_cases cy : ys = []
              · rw [decide_eq_true cy]
                refine iteT (iteT ?_)
                refine ⟨_, rfl, _, rfl, p, l, nb, ns.map V.str, rfl, hd8, fun H' k => SqX.tup (k _ _ hn8 nb1 nb2), ⟨by rw [List.length_map]; have := List.length_pos_iff.mpr ok.ne; omega, by rw [List.length_map]; have := ok.ln; omega⟩, fun xx H9 hx k9 hd9 => ⟨by show 1 ≤ sizeLine; decide, fun t9 kt9 => ?_⟩⟩
                obtain ⟨nm, hnm, rfl⟩ := List.mem_map.mp hx
                have s9 := same_new kt9 (.tup [V.str nm])
                exact ⟨_, [nm], rfl, ((Kept2.same (s7.trans s8)).trans k9).trans (Kept2.same s9), hd9.same s9, ⟨t9, rfl, upd_same⟩, by simp, List.pairwise_singleton _ _, fun x hx => by rw [List.mem_singleton.mp hx]; exact hnm⟩
              · rw [decide_eq_false cy]
                refine iteF ⟨_, rfl, rfl, _, rfl, ?_⟩
                by_cases c2 : fm = 1
                · rw [decide_eq_true (by rw [c2])]
                  refine iteT ?_
                  refine ⟨_, rfl, _, rfl, p, l, nb, ns.map V.str, rfl, hd8, fun H' k => SqX.tup (k _ _ hn8 nb1 nb2), ⟨by rw [List.length_map]; have := List.length_pos_iff.mpr ok.ne; omega, by rw [List.length_map]; have := ok.ln; omega⟩, fun xx H9 hx k9 hd9 => ⟨by show 1 ≤ sizeLine; decide, fun t9 kt9 => ?_⟩⟩
                  obtain ⟨nm, hnm, rfl⟩ := List.mem_map.mp hx
                  have s9 := same_new kt9 (.tup [V.str nm])
                  exact ⟨_, [nm], rfl, ((Kept2.same (s7.trans s8)).trans k9).trans (Kept2.same s9), hd9.same s9, ⟨t9, rfl, upd_same⟩, by simp, List.pairwise_singleton _ _, fun x hx => by rw [List.mem_singleton.mp hx]; exact hnm⟩
                · rw [decide_eq_false (fun e => c2 (by injection e))]
                  exact iteF ⟨_, rfl, _, ys, rfl, Kept2.same (s7.trans s8), hd8, ⟨tq, rfl, eq8⟩, cy, asc, inn⟩
          · rintro σ H7 ⟨v, lot, rfl, k7, hd7, hl, lo⟩
            have et7 : H7 tp = some (.lst its) := k7 _ _ et6 tp1 tp2
            have k37 := k36.trans k7
            refine ⟨_, rfl, .inl ⟨rfl, _, SqL.of et7⟩, _, rfl, tp, its, v, rfl, rfl, et7, ?_, ⟨_, _, _, _, rfl⟩, its ++ [v], lots ++ [lot], (k3.two k37).put, hd7.put tp1.symm tp2.symm, upd_same, ?_, ?_, by rw [List.length_append, ln]; rfl⟩
            · have := al3.len; rw [sizeLine_eq]; omega
            · exact ((al6.imp fun _ _ t => t.fix (k7.fix hd6)).imp fun _ _ t => t.put et7).app (.cons (hl.put et7) .nil)
            · intro x hx
              rcases List.mem_append.mp hx with h | h
              · exact okl x h
              · rw [List.mem_singleton.mp h]; exact lo
      · rintro σ H3 ⟨st, iv⟩
        rw [List.length_map, List.length_range] at iv
        exact ⟨st, _, iv, by omega⟩
    rintro σ H2 ⟨⟨o4, o5, o6, o7, rfl⟩, n, ⟨its, lots, k2, hd2, et2, al, okl, ln⟩, nm⟩
    exact ⟨_, rfl, q tp its lots H2 ktp (kin _ k2) hd2 et2 al okl (by omega)⟩
end
end K6

namespace K6
open PySem PySem.Spec PyProof.Rows L2 Hb St Sq Ow En Zp RZ Rd Xb Da Lg
theorem LotOk.sub {ns l m : List Str} (h : LotOk ns l) (s : m.Sublist l) (n : m ≠ []) : LotOk ns m := ⟨n, h.2.1.sublist s, fun x hx => h.2.2 x (s.subset hx)⟩
theorem cut_from {xs : List V} {n : Nat} : cutV xs (some (n : Nat)) none = xs.drop n := by
  unfold cutV
  rw [HT.sIx_none, HT.sIx_nat]
  by_cases h : n ≤ xs.length
  · rw [Nat.min_eq_left h, List.take_of_length_le (by rw [List.length_drop]; exact Nat.le_refl _)]
  · rw [List.drop_eq_nil_of_le (as := xs) (i := n) (by omega), Nat.min_eq_right (by omega), List.drop_length, List.take_nil]
theorem nodup_len {α : Type} [DecidableEq α] : ∀ {l m : List α}, l.Nodup → (∀ x ∈ l, x ∈ m) → l.length ≤ m.length
  | [], _, _, _ => Nat.zero_le _
  | a :: l, m, nd, s => by
    obtain ⟨n1, n2⟩ := List.nodup_cons.mp nd
    have h := nodup_len (l := l) (m := m.erase a) n2 fun x hx => (List.mem_erase_of_ne (show x ≠ a from fun e => n1 (by rw [← e]; exact hx))).mpr (s x (List.mem_cons_of_mem _ hx))
    have ha := s a List.mem_cons_self
    have := List.length_erase_of_mem ha
    have := List.length_pos_of_mem ha
    rw [List.length_cons]; omega
theorem all2_take {α β : Type} {R : α → β → Prop} : ∀ {xs : List α} {ys : List β}, All2 R xs ys → ∀ n, All2 R (xs.take n) (ys.take n)
  | _, _, .nil, n => by rw [List.take_nil, List.take_nil]; exact .nil
  | _, _, .cons r t, 0 => .nil
  | _, _, .cons r t, n + 1 => .cons r (all2_take t n)
theorem all2_drop {α β : Type} {R : α → β → Prop} : ∀ {xs : List α} {ys : List β}, All2 R xs ys → ∀ n, All2 R (xs.drop n) (ys.drop n)
  | _, _, .nil, n => by rw [List.drop_nil, List.drop_nil]; exact .nil
  | _, _, .cons r t, 0 => .cons r t
  | _, _, .cons r t, n + 1 => all2_drop t n
theorem fresh2 {p l c : Addr} {H H' : Hp} (k : Kept2 p l H H') (d : DealAt H' p l) (e : H' c = none) : H c = none := by
  obtain ⟨n1, n2⟩ := d.ne_none e
  cases h : H c with
  | none => rfl
  | some o => rw [k c o h n1 n2] at e; cases e
section
variable {P : Program} {w : World} {K : PySem.W.Frag} {mg : Str → Option Value} {base : Heap}
/-! ### _law_less -/
abbrev s__law_less : Stmt := top 37
theorem sc__law_less : FnScope ["heap", "lots", "found", "lot", "at", "name"] ["heap", "lots"] (defScope s__law_less) := ⟨rfl, rfl, rfl, by decide +kernel, rfl, by decide +kernel, by decide +kernel⟩
def spLess (K : PySem.W.Frag) : Sp := fun vs H Q _ => ∃ (p l a : Addr) (its : List V) (lots : List (List Str)) (ns : List Str), vs = [.ref p, .ref a] ∧ DealAt H p l ∧ H a = some (.lst its) ∧ (a ≠ p ∧ a ≠ l) ∧ All2 (LotH H) its lots ∧ (∀ x ∈ lots, LotOk ns x) ∧ lots.length ≤ 7 ∧ NsOk ns ∧
  ∀ t jts ls H', H t = none → Kept2 p l H H' → DealAt H' p l → H' t = some (.lst jts) → All2 (LotH H') jts ls → (∀ x ∈ ls, LotOk ns x) → ls.length ≤ 8 → Q (.ref t) H'
theorem ok_less {f : Addr} {fd : FuncData} (F : Fun K "_law_less" "_law_less" s__law_less f fd) (C__law_draw : Cl P w K mg base "_law_draw" ["heap", "many"] [] 1 spDraw) (C__law_pick : Cl P w K mg base "_law_pick" ["heap", "some"] [] 2 (spPick K)) (n_len : mg "len" = none) (n_tuple : mg "tuple" = none) : FnOk P w K mg base CX0 3 f fd ["heap", "lots"] (spLess K) := by
  refine F.ok sc__law_less (fun vs H Q E h => ?_) (fun cdv A outer s H vs Q E hr h => ?_)
  · obtain ⟨_, _, _, _, _, _, rfl, _⟩ := h
    rfl
  · obtain ⟨p, l, a, its, lots, ns, rfl, hd, ea, ⟨a1, a2⟩, al, okl, ll, ok, q⟩ := h
    refine ⟨_, (pss_cons (ps_set (i := 2) sc__law_less.nd rfl (Or.inl rfl) (pe_lst pa_nil))
    (Evl.pss_cut (ps_for PassesOwn.never rfl (pi_seq (pv 1)) (pg_name (i := 3) sc__law_less.nd rfl (Or.inl rfl))
      (pss_cons (ps_set (i := 3) sc__law_less.nd rfl (Or.inl rfl) (pe_callTy call_tuple_of (by rfl) n_tuple (by decide +kernel) (pa_cons (pe_lc (own := [("name", 5)]) (g := gName 5) rfl sc__law_less.nd (pi_seq (pv 3)) (blkOk_by (N := ["heap", "lots", "found", "lot", "at", "name"]) (sc := defScope s__law_less) (by decide +kernel)) (fun _ _ _ _ _ => pg_name (i := 5) sc__law_less.nd rfl (Or.inl rfl)) (fun _ _ _ _ _ => pts_one (pt_cmpR op_gt (pe_use C__law_draw (hr.mono (by decide)) rfl (pa_cons (pv 0) (pa_cons pe_int pa_nil))) pe_int (nomark _))) (fun _ _ _ _ _ => pv 5)) pa_nil)))
    (pss_one (ps_set (i := 2) sc__law_less.nd rfl (Or.inl rfl) (pe_op op_cat (pv 2) (pe_ifExp (pt_cmpR (op_neD hr.units) (pv 3) (pe_tup pa_nil) (nomark _)) (pe_lst (pa_cons (pv 3) pa_nil)) (pe_lst pa_nil)))))))
    (Evl.pss_cut (ps_if (PW.pt (pw_and (pt_cmpR (op_neD hr.units) (pv 1) (pe_lst pa_nil) (nomark _)) (pw_and1 (pt_cmpR op_eq (pe_use C__law_draw (hr.mono (by decide)) rfl (pa_cons (pv 0) (pa_cons pe_int pa_nil))) pe_int (nomark _))))) (pss_cons (ps_set (i := 4) sc__law_less.nd rfl (Or.inl rfl) (pe_use C__law_draw (hr.mono (by decide)) rfl (pa_cons (pv 0) (pa_cons (pe_op op_add (pe_callB call_len_seq (by rfl) n_len PySem.boot_len (pa_cons (pv 2) pa_nil)) pe_int) pa_nil))))
    (pss_one (ps_set (i := 2) sc__law_less.nd rfl (Or.inl rfl) (pe_op op_cat (pe_op op_cat (pe_slice (r := rSlL K) sl_list (pv 2) po_none (po_some (pv 4))) (pe_lst (pa_cons (pe_use C__law_pick (hr.mono (by decide)) rfl (pa_cons (pv 0) (pa_cons (pv 1) pa_nil))) pa_nil))) (pe_slice (r := rSlL K) sl_list (pv 2) (po_some (pv 4)) po_none))))) pss_nil)
    (pss_one (ps_ret (pv 2)))))), ?_⟩
    refine ⟨by show 0 ≤ sizeLine; decide, fun fp kfp => ?_⟩
    have s1 := same_new kfp (.lst [])
    have efp : upd H fp (.lst []) fp = some (.lst []) := upd_same
    have hd1 := hd.same s1
    have ea1 := s1 _ _ ea
    have al1 := al.imp fun _ _ t => t.fix (Fix.of s1)
    have kin : ∀ H', Kept2 p l (upd H fp (.lst [])) H' → Kept2 p l H H' := fun H' k => (Kept2.same s1).trans k
    have frs : ∀ b, upd H fp (.lst []) b = none → H b = none := fun b e => by
      cases h : H b with
      | none => rfl
      | some o => rw [s1 _ _ h] at e; cases e
    have ffp : fp ≠ p ∧ fp ≠ l := hd.ne_none kfp
    generalize upd H fp (.lst []) = H1 at s1 efp hd1 ea1 al1 kin frs ⊢
    have la : its.length = lots.length := al.len
    let St : Addr → L2.St → Prop := fun g σ => ∃ o3 o4 o5, σ = [some (.ref p), some (.ref a), some (.ref g), o3, o4, o5]
    let Inv : Addr → Hp → Nat → Prop := fun g H' n => Kept2 p l H1 H' ∧ DealAt H' p l ∧ (g ≠ p ∧ g ≠ l) ∧ H g = none ∧ ∃ jts ls, H' g = some (.lst jts) ∧ All2 (LotH H') jts ls ∧ (∀ x ∈ ls, LotOk ns x) ∧ ls.length ≤ n
    refine ⟨fun σ H' => ∃ g, St g σ ∧ Inv g H' lots.length, ?_, ?_⟩
    · refine ⟨_, rfl, a, its, rfl, SqX.lst ea1, fun J S W z0 => ?_⟩
      refine for_sq W (fun i σ H' => ∃ g, St g σ ∧ Inv g H' i) ⟨fp, ⟨none, none, none, rfl⟩, Kept2.refl _ _ _, hd1, ffp, kfp, [], [], efp, .nil, (fun x hx => by cases hx), Nat.le_refl _⟩ (fun j σ H' pv => W.keep (fun o e => let ⟨_, _, k, _⟩ := pv; k _ _ e a1 a2) z0) ?_ ?_
      · rintro i σ H2 x ex ⟨g, ⟨o3, o4, o5, rfl⟩, k2, hd2, ⟨g1, g2⟩, kg, jts, ls, eg, alj, okj, lj⟩
        have al2 := al1.imp fun _ _ t => t.fix (k2.fix hd1)
        obtain ⟨lot, elot, lb, rfl, elb⟩ := al2.get ex
        have lo := okl lot (at_mem elot)
        have lln : lot.length ≤ 4 := Nat.le_trans (nodup_len (asc_nodupS lo.2.1) lo.2.2) ok.ln
        obtain ⟨lb1, lb2⟩ := hd2.ne_tup elb
        refine ⟨_, rfl, lb, _, rfl, SqX.tup elb, fun J2 S2 W2 z2 D hD => ?_⟩
        obtain ⟨D1, D2⟩ := hd2.ne_none hD
        refine lc_go W2 (fun j H' => Kept2 p l H2 H' ∧ DealAt H' p l ∧ ∃ xs : List Str, H' D = some (.lst (xs.map V.str)) ∧ xs.Sublist (lot.take j)) ⟨?_, ?_, [], upd_same, List.nil_sublist _⟩ (fun j H' m => W2.keep (fun o e => by rw [elb] at e; cases e; exact m.1 _ _ elb lb1 lb2) z2) ?_ ?_
        · exact fun b o e _ _ => by rw [upd_ne (ne_of_none e hD)]; exact e
        · exact hd2.put D1.symm D2.symm
        · rintro j y H4 ey ⟨k4, hd4, xs, eD, sub⟩
          obtain ⟨nm, en⟩ : ∃ nm, lot[j]? = some nm := ⟨_, List.getElem?_eq_getElem (by have := (List.getElem?_eq_some_iff.mp ey).1; rwa [List.length_map] at this)⟩
          obtain rfl := at_map ey en
          refine ⟨rfl, _, rfl, p, l, 3, rfl, by decide, hd4, fun d' H5 _ _ k5 hd5 => ?_⟩
          have eD5 := k5 _ _ eD D1 D2
          have lx : xs.length ≤ 4 := Nat.le_trans sub.length_le (Nat.le_trans (List.length_take_le' ..) lln)
          refine ⟨_, _, rfl, rfl, _, rfl, iteD (fun c => ⟨_, rfl, _, eD5, by rw [List.length_map, sizeLine_eq]; omega, fun b o e x y => ?_, hd5.put D1.symm D2.symm, xs ++ [nm], by rw [upd_same, List.map_append]; rfl, sub_yes sub en⟩) fun c => ⟨k4.trans k5, hd5, xs, eD5, sub_no sub⟩⟩
          rw [upd_ne (ne_of_none e hD)]
          exact (k4.trans k5) b o e x y
        · rintro H4 ⟨k4, hd4, xs, eD, sub⟩
          rw [List.length_map, List.take_length] at sub
          refine ⟨D, _, rfl, .inl ⟨SqL.of eD, fun tq ktq => ?_⟩⟩
          have s5 := same_new ktq (.tup (xs.map V.str))
          have eq5 : upd H4 tq (.tup (xs.map V.str)) tq = some (.tup (xs.map V.str)) := upd_same
          generalize upd H4 tq (.tup (xs.map V.str)) = H5 at s5 eq5 ⊢
          have k25 := k4.trans (Kept2.same s5)
          have eg5 := k25 _ _ eg g1 g2
          have alj5 := alj.imp fun _ _ t => t.fix (k25.fix hd2)
          have hd5 := hd4.same s5
          refine ⟨_, rfl, _, rfl, by show 0 ≤ sizeLine; decide, fun t6 kt6 => ?_⟩
          have s6 := same_new kt6 (.tup [])
          have e6 : upd H5 t6 (.tup []) t6 = some (.tup []) := upd_same
          generalize upd H5 t6 (.tup []) = H6 at s6 e6 ⊢
          refine ⟨.tuple (xs.map .str), .tuple [], .tup (SqT.of (s6 _ _ eq5)) (dp_strs _), .tup (SqT.of e6) .nil, (sh_lot fun x hx => ok.nm x (lo.2.2 x (sub.subset hx))).ok (by decide), by decide, _, rfl, ?_⟩
          rw [show PyData.eqv (.tuple (xs.map .str)) (.tuple []) = decide (xs = []) from eqvAll_map eqv_str xs []]
          have ljt : jts.length ≤ 7 := by
            have := alj.len
            have hi : i < its.length := (List.getElem?_eq_some_iff.mp ex).1
            omega
          have s56 := s6
          have hd6 := hd5.same s6
          have k16 := k2.trans (k25.trans (Kept2.same s6))
          have eg6 := s6 _ _ eg5
          have alj6 := alj5.imp fun _ _ t => t.fix (Fix.of s6)
          by_cases cx : xs = []
          · rw [decide_eq_true cx]
            refine iteF ⟨by show 0 ≤ sizeLine; decide, fun t7 kt7 => ?_⟩
            have s7 := same_new kt7 (.lst [])
            have e7 : upd H6 t7 (.lst []) t7 = some (.lst []) := upd_same
            generalize upd H6 t7 (.lst []) = H7 at s7 e7 ⊢
            have hd7 := hd6.same s7
            have k17 := k16.trans (Kept2.same s7)
            refine ⟨g, t7, jts, [], rfl, rfl, s7 _ _ eg6, e7, by rw [sizeLine_eq]; show _ + 0 ≤ _; omega, fun g' kg' => ?_⟩
            have s8 := same_new kg' (.lst (jts ++ []))
            exact ⟨g', ⟨_, _, _, rfl⟩, k17.trans (Kept2.same s8), hd7.same s8, hd7.ne_none kg', frs _ (fresh2 k17 hd7 kg'), jts ++ [], ls ++ [], upd_same, ((alj6.imp fun _ _ t => t.fix (Fix.of s7)).imp fun _ _ t => t.fix (Fix.of s8)).app .nil, (by rw [List.append_nil]; exact okj), by rw [List.append_nil]; omega⟩
          · rw [decide_eq_false cx]
            refine iteT ⟨_, rfl, by show 1 ≤ sizeLine; decide, fun t7 kt7 => ?_⟩
            have s7 := same_new kt7 (.lst [.ref tq])
            have e7 : upd H6 t7 (.lst [.ref tq]) t7 = some (.lst [.ref tq]) := upd_same
            generalize upd H6 t7 (.lst [.ref tq]) = H7 at s7 e7 ⊢
            have hd7 := hd6.same s7
            have k17 := k16.trans (Kept2.same s7)
            refine ⟨g, t7, jts, [.ref tq], rfl, rfl, s7 _ _ eg6, e7, by rw [sizeLine_eq]; show _ + 1 ≤ _; omega, fun g' kg' => ?_⟩
            have s8 := same_new kg' (.lst (jts ++ [.ref tq]))
            refine ⟨g', ⟨_, _, _, rfl⟩, k17.trans (Kept2.same s8), hd7.same s8, hd7.ne_none kg', frs _ (fresh2 k17 hd7 kg'), jts ++ [.ref tq], ls ++ [xs], upd_same, ((alj6.imp fun _ _ t => t.fix (Fix.of s7)).imp fun _ _ t => t.fix (Fix.of s8)).app (.cons ⟨tq, rfl, ((s6.trans s7).trans s8) _ _ eq5⟩ .nil), (fun z hz => ?_), by rw [List.length_append]; show _ + 1 ≤ _; omega⟩
            rcases List.mem_append.mp hz with h | h
            · exact okj z h
            · rw [List.mem_singleton.mp h]; exact lo.sub sub cx
      · rintro σ H2 ⟨g, st, iv⟩
        rw [la] at iv
        exact ⟨g, st, iv⟩
    rintro σ H2 ⟨g, ⟨o3, o4, o5, rfl⟩, k2, hd2, ⟨g1, g2⟩, kg, jts, ls, eg, alj, okj, lj⟩
    have ea2 := k2 _ _ ea1 a1 a2
    have al2 := al1.imp fun _ _ t => t.fix (k2.fix hd1)
    refine ⟨fun σ H' => ∃ g, St g σ ∧ Inv g H' 8, ?_, ?_⟩
    · refine ⟨_, rfl, by show 0 ≤ sizeLine; decide, fun t3 kt3 => ?_⟩
      have s3 := same_new kt3 (.lst [])
      have e3 : upd H2 t3 (.lst []) t3 = some (.lst []) := upd_same
      generalize upd H2 t3 (.lst []) = H3 at s3 e3 ⊢
      have al3 := al2.imp fun _ _ t => t.fix (Fix.of s3)
      have hd3 := hd2.same s3
      have k13 := k2.trans (Kept2.same s3)
      have eg3 := s3 _ _ eg
      have alj3 := alj.imp fun _ _ t => t.fix (Fix.of s3)
      have ea3 := s3 _ _ ea2
      refine ⟨.list (lots.map fun l => .tuple (l.map .str)), .list [], .lst (SqL.of ea3) (dp_all (fun _ _ h => h.dp) al3), .lst (SqL.of e3) .nil, (sh_lst (n := 1) fun l hl => sh_lot fun x hx => ok.nm x ((okl l hl).2.2 x hx)).ok (by decide), by decide, _, rfl, ?_⟩
      by_cases el : lots = []
      · rw [el]
        exact iteF (iteF ⟨g, ⟨_, _, _, rfl⟩, k13, hd3, ⟨g1, g2⟩, kg, jts, ls, eg3, alj3, okj, by omega⟩)
      · rw [show PyData.eqv (.list (lots.map fun l => .tuple (l.map .str))) (.list []) = false by cases lots with | nil => exact absurd rfl el | cons _ _ => rfl]
        refine iteT ⟨_, rfl, p, l, 5, rfl, by decide, hd3, fun d H4 _ _ k4 hd4 => ⟨rfl, _, rfl, ?_⟩⟩
        have k14 := k13.trans k4
        have eg4 := k4 _ _ eg3 g1 g2
        have ea4 := k4 _ _ ea3 a1 a2
        have alj4 := alj3.imp fun _ _ t => t.fix (k4.fix hd3)
        have al4 := al3.imp fun _ _ t => t.fix (k4.fix hd3)
        by_cases c : d = 0
        · rw [decide_eq_true (by rw [c])]
          have ljn : jts.length = ls.length := alj.len
          refine iteT ⟨_, rfl, _, rfl, g, jts, rfl, .inl (SqL.of eg4), _, _, rfl, rfl, p, l, ((jts.length : Nat) : Int) + 1, rfl, by omega, hd4, fun at' H5 t0 t1 k5 hd5 => ?_⟩
          obtain ⟨at', rfl⟩ : ∃ n : Nat, at' = (n : Nat) := ⟨at'.toNat, by omega⟩
          have k15 := k14.trans k5
          have eg5 := k5 _ _ eg4 g1 g2
          refine ⟨_, rfl, _, rfl, _, rfl, g, _, rfl, SqL.of eg5, fun p6 hp6 => ?_⟩
          have s6 := same_new hp6 (.lst (cutV jts none (some (at' : Nat))))
          have e6 : upd H5 p6 (.lst (cutV jts none (some (at' : Nat)))) p6 = some (.lst (jts.take at')) := by rw [upd_same, cut_take]
          generalize upd H5 p6 (.lst (cutV jts none (some (at' : Nat)))) = H6 at s6 e6 ⊢
          obtain ⟨p61, p62⟩ := hd5.ne_none hp6
          have hd6 := hd5.same s6
          have k46 := k5.trans (Kept2.same s6)
          have ea6 := k46 _ _ ea4 a1 a2
          refine ⟨_, rfl, _, rfl, p, l, a, its, rfl, hd6, fun H' k => SqX.lst (k _ _ ea6 a1 a2), ⟨by have := List.length_pos_iff.mpr el; omega, by omega⟩, fun xx H7 hx k7 hd7 => ⟨by show 1 ≤ sizeLine; decide, fun t8 kt8 => ?_⟩⟩
          have k47 := k46.trans k7
          have eg7 := k47 _ _ eg4 g1 g2
          have e67 := k7 _ _ e6 p61 p62
          have al7 := al4.imp fun _ _ t => t.fix (k47.fix hd4)
          have alj7 := alj4.imp fun _ _ t => t.fix (k47.fix hd4)
          obtain ⟨ix, eix⟩ := List.mem_iff_getElem?.mp hx
          obtain ⟨lot, elot, hlot⟩ := al7.get eix
          have s8 := same_new kt8 (.lst [xx])
          have e8 : upd H7 t8 (.lst [xx]) t8 = some (.lst [xx]) := upd_same
          generalize upd H7 t8 (.lst [xx]) = H8 at s8 e8 ⊢
          refine ⟨p6, t8, _, _, rfl, rfl, s8 _ _ e67, e8, by rw [List.length_take, sizeLine_eq]; show _ + 1 ≤ _; omega, fun p9 hp9 => ?_⟩
          have s9 := same_new hp9 (.lst (jts.take at' ++ [xx]))
          have e9 : upd H8 p9 (.lst (jts.take at' ++ [xx])) p9 = some (.lst (jts.take at' ++ [xx])) := upd_same
          generalize upd H8 p9 (.lst (jts.take at' ++ [xx])) = H9 at s9 e9 ⊢
          have eg9 := (s8.trans s9) _ _ eg7
          refine ⟨_, rfl, _, rfl, _, rfl, g, _, rfl, SqL.of eg9, fun pa hpa => ?_⟩
          have s10 := same_new hpa (.lst (cutV jts (some (at' : Nat)) none))
          have e10 : upd H9 pa (.lst (cutV jts (some (at' : Nat)) none)) pa = some (.lst (jts.drop at')) := by rw [upd_same, cut_from]
          generalize upd H9 pa (.lst (cutV jts (some (at' : Nat)) none)) = H10 at s10 e10 ⊢
          have s710 := (s8.trans s9).trans s10
          have k110 := k14.trans (k47.trans (Kept2.same s710))
          have hd10 := hd7.same s710
          refine ⟨p9, pa, _, _, rfl, rfl, s10 _ _ e9, e10, by rw [List.length_append, List.length_take, List.length_drop, sizeLine_eq]; show _ + 1 + _ ≤ _; omega, fun gn hgn => ?_⟩
          have s11 := same_new hgn (.lst (jts.take at' ++ [xx] ++ jts.drop at'))
          have al11 := alj7.imp fun _ _ t => t.fix (Fix.of (s710.trans s11))
          refine ⟨gn, ⟨_, _, _, rfl⟩, k110.trans (Kept2.same s11), hd10.same s11, hd10.ne_none hgn, frs _ (fresh2 k110 hd10 hgn), _, ls.take at' ++ [lot] ++ ls.drop at', upd_same, ((all2_take al11 at').app (.cons (hlot.fix (Fix.of (s710.trans s11))) .nil)).app (all2_drop al11 at'), fun z hz => ?_, by rw [List.length_append, List.length_append, List.length_take, List.length_drop]; show _ + 1 + _ ≤ _; omega⟩
          rcases List.mem_append.mp hz with h | h
          · rcases List.mem_append.mp h with h | h
            · exact okj z (List.mem_of_mem_take h)
            · rw [List.mem_singleton.mp h]; exact okl lot (at_mem elot)
          · exact okj z (List.mem_of_mem_drop h)
        · rw [decide_eq_false (fun e => c (by injection e))]
          exact iteF ⟨g, ⟨_, _, _, rfl⟩, k14, hd4, ⟨g1, g2⟩, kg, jts, ls, eg4, alj4, okj, by omega⟩
    rintro σ H3 ⟨g, ⟨o3, o4, o5, rfl⟩, k3, hd3, ⟨g1, g2⟩, kg, jts, ls, eg, alj, okj, lj⟩
    exact ⟨_, rfl, q g jts ls H3 kg (kin _ k3) hd3 eg alj okj lj⟩
end
end K6

/-! several clauses "except x as n", all with one name; repr of ints and None -/
namespace Ty
open PySem PySem.Spec PyProof.Rows L2
abbrev Cls := Addr → Value → Option Addr → TS
def offEnds (D : Ends) (i : Nat) : Ends := { nx := fun τ G => D.nx (τ.set i none) G, rt := D.rt, bk := fun τ G => D.bk (τ.set i none) G, ct := fun τ G => D.ct (τ.set i none) G }
/-- what the clauses wish, one behind the other -/
def wAsM (K : PySem.W.Frag) (Wout : WX) (D : Ends) (i m : Nat) : List (Value × Cls) → WX
  | [] => Wout
  | (c, ts) :: r => fun cls d τ G => ∃ b, PySem.W.exmOne K cls c = some b ∧ (b = true → ∀ z, G z = none → τ.length = m → ts z cls d (offEnds D i) (τ.set i (some (.ref z))) G) ∧ (b = false → wAsM K Wout D i m r cls d τ G)
inductive CsOk (X : Cx) (n : Str) : List ExceptHandler → List (Value × Cls) → Prop
  | nil : CsOk X n [] []
  | cons {x : Str} {c : Value} {ts : Cls} {b₁ : Stmt} {rest : List Stmt} {np pp : Pos} {hds : List ExceptHandler} {l : List (Value × Cls)} (nm : Names X x c)
      (su : ∀ (z : Addr) (oz : Obj) (cls : Value) (d : Option Addr) (pn : List (Addr × Obj)), Zc cls d oz → (∃ vs, oz.data = .fields vs) → PSs (X.suite z ((z, oz) :: pn)) (b₁ :: rest) (ts z cls d)) (r : CsOk X n hds l) :
      CsOk X n (.ExceptHandler (some (.Name x np)) (some n) (b₁ :: rest) pp :: hds) ((c, ts) :: l)
section
variable {X : Cx} {n : Str} {i : Nat} {body : List Stmt} {hd₀ : ExceptHandler} {hds : List ExceptHandler} {l : List (Value × Cls)} {pos : Pos} {tb : WX → TS} {Wout : WX}
theorem ps_try_asM (stk : X.stack = X.env :: X.outer) (frm : X.env.frame = some X.env.locals) (nd : X.N.Nodup) (at_i : X.N[i]? = some n) (lcl : X.env.kindOf n = some .local) (tk : Takes X Wout)
    (bd : ∀ (W : WX) (pn : List (Addr × Obj)) (xe : Value → Shared → Prop), Takes (X.tr pn xe) W → PassesOwn (model X.prog X.w) X.A X.env xe → PSs (X.tr pn xe) body (tb W))
    (cl : CsOk X n (hd₀ :: hds) l) : PS X (.Try body (hd₀ :: hds) [] [] pos) (fun D τ G => tb (wAsM X.K Wout D i X.N.length l) D τ G) := by
  refine ⟨fun pin s τ G D I hw => ?_⟩
  have okX := I.ok
  have frs_ : X.A.frames = some (X.env :: X.outer) := by rw [okX.frames, stk]
  have nloc : Loc X.env.scope n := .inl lcl
  refine wpAny_Try_except ?_
  refine wpAny_mono ((bd (wAsM X.K Wout D i X.N.length l) (X.pn ++ pin) (fun e u₁ => wpAny (model X.prog X.w) X.A (noteFrame e X.env) (fun _ u₂ => wpAny (model X.prog X.w) X.A (setFlight e none) (fun _ u₃ =>
    wpAny (model X.prog X.w) X.A (handleBy e X.env (hd₀ :: hds)) (SP X pin D) X.xe u₃) X.xe u₂) X.xe u₁) (fun u v xx => ?_) PassesOwn.looking).run [] s τ G D (I.toTry _) hw) (fun f s1 out => ?_) (fun _ _ z => z)
  · obtain ⟨z, B, sI, pin', τ', G', cls, d, rfl, J', nb, up, sky, na, os, ag, w⟩ := xx
    have J : Inv X pin τ' G' sI := J'.ofTry okX
    have sky2 : Sky B (X.env :: X.outer) z (Zc cls d) X.env.locals v.heap := by rw [← stk]; exact sky
    show wpAny (model X.prog X.w) X.A (noteFrame (.ref z) X.env) _ _ _
    refine Sky.land Zc.steady frs_ frm sky2 fun g3 fl3 up3 => ?_
    have J3 : Inv X pin τ' G' { v with heap := g3 } := J.landed nb fl3.1 (up.trans up3) os ag
    obtain ⟨oz3, _, ez3, hz3, dz3⟩ := fl3.there
    have away : z ∉ frs (X.env :: X.outer) := fun hm => by
      obtain ⟨_, o', e', nf⟩ := fl3.2.2.1.mem hm
      rw [ez3] at e'; cases e'
      exact nf _ dz3
    have nL : z ≠ X.env.locals := fun q => away (List.mem_filterMap.mpr ⟨X.env, List.mem_cons_self, by rw [frm, q]⟩)
    have nF : z ∉ X.fs := fun hm => by
      obtain ⟨e, he, q⟩ := List.mem_filterMap.mp hm
      exact away (List.mem_filterMap.mpr ⟨e, List.mem_cons_of_mem _ he, q⟩)
    have S3 := J3.suite ez3 dz3 na nL nF
    have walk : ∀ {hs' : List ExceptHandler} {l' : List (Value × Cls)}, CsOk X n hs' l' → wAsM X.K Wout D i X.N.length l' cls d τ' G' →
        wpAny (model X.prog X.w) X.A (handleBy (.ref z) X.env hs') (SP X pin D) X.xe { v with heap := g3 } := by
      intro hs' l' hk
      induction hk with
      | nil =>
        intro w
        refine wpAny_handleBy_nil ?_
        obtain ⟨_, _, _, oe, vs, T, oT, t2, he, hz, hd, h1, hr⟩ := id fl3
        unfold PySem.passOn
        refine wpAny_bind (wpAny_field he hd h1 ?_)
        rw [if_neg (show ¬ ((Value.ref T == Value.none) = true) from by simp)]
        have fin : wpAny (model X.prog X.w) X.A (setFlight (.ref z) X.env.frame) (fun _ u4 => wpAny (model X.prog X.w) X.A (throw (.ref z) : Sem Flow) (SP X pin D) X.xe u4) X.xe { v with heap := g3 } := by
          rw [frm]
          refine HandSPX.setFlight_upZ fl3 fun g4 hh4 up4 => wpAny_throw (tk _ _ ?_)
          exact ⟨z, B, sI, pin, τ', G', cls, d, rfl, J, nb, (up.trans up3).trans up4, .inr (.inr (by rw [stk]; exact hh4)), na, os, ag, w⟩
        first
          | exact wpAny_bind (wpAny_pure (wpAny_bind fin))
          | exact wpAny_bind fin
      | @cons x c ts b₁ rest np pp hds2 l2 nm su r ih =>
        intro w
        obtain ⟨b, is, yes, no⟩ := w
        refine wpAny_handleBy_cons (codeAny_handlers_test ?_) (by intro q; cases q)
        have LT : PySem.W.Looks (model X.prog X.w) g3 (typeOf (.ref z)) cls := fun A Q E u k q => wpAny_typeOf_ref (k _ _ ez3) (by rw [hz3.1]; exact q)
        have LM := PySem.W.exm_one (M := model X.prog X.w) (J3.kIn) LT is
        have look : ∀ {Q : Value → Shared → Prop} {E : Value → Shared → Prop}, Q c { v with heap := g3 } → wpAny (model X.prog X.w) (X.A.mark (some (.ref z))) (eval (.Name x np) X.env) Q E { v with heap := g3 } := fun {Q E} q => by
          obtain ⟨gl, db, h1 | ⟨h1, h2, h3⟩⟩ := nm
          · exact ld_glob (X := X.suite z ((z, oz3) :: (X.pn ++ pin))) S3 gl h1 q db
          · exact ld_blt (X := X.suite z ((z, oz3) :: (X.pn ++ pin))) S3 gl h1 h2 q h3 db
        refine look (LM.here ?_)
        cases b with
        | true =>
          refine codeAny_handlers_suite_as ?_
          refine HandSPX.lands_againZ fl3 fun g4 fl4 up4 => ?_
          have J4 : Inv X pin τ' G' { v with heap := g4 } := J.landed nb fl4.1 ((up.trans up3).trans up4) os ag
          obtain ⟨oz4, _, ez4, hz4, dz4⟩ := fl4.there
          have S4 := J4.suite ez4 dz4 na nL nF
          refine store_ok (X := X.suite z ((z, oz4) :: (X.pn ++ pin))) (v := .ref z) S4 nd at_i nloc rfl (fun s5 S5 => ?_) (.inr lcl)
          refine wpAny_mono ((su z oz4 cls d (X.pn ++ pin) hz4 ⟨_, dz4⟩).run [] s5 _ G' _ S5 (yes rfl z na J.len)) (fun f s6 q6 => ?_) (fun _ _ y => False.elim y)
          have gone : ∀ {τ6 : L2.St} {G6 : Hp} {Q : Shared → Prop}, Inv (X.suite z ((z, oz4) :: (X.pn ++ pin))) [] τ6 G6 s6 → (∀ s7, Inv X pin (τ6.set i none) G6 s7 → Q s7) →
              wpAny (model X.prog X.w) X.A (do bindName X.env n .none; unbindBehindTheSuite X.env n pp) (fun _ s7 => Q s7) X.xe s6 := fun {τ6 G6 Q} S6 hq => gone_ok (S6.unsuite okX) nd at_i lcl hq
          rcases f with _ | _ | _ | u
          · obtain ⟨_, _, S6, q⟩ := q6
            exact gone S6 fun s7 J7 => ⟨_, _, J7, q⟩
          · obtain ⟨_, _, S6, q⟩ := q6
            exact gone S6 fun s7 J7 => ⟨_, _, J7, q⟩
          · obtain ⟨_, _, S6, q⟩ := q6
            exact gone S6 fun s7 J7 => ⟨_, _, J7, q⟩
          · obtain ⟨_, _, _, S6, r6, q⟩ := q6
            exact gone S6 fun s7 J7 => ⟨_, _, _, J7, r6, q⟩
        | false =>
          show wpAny _ X.A (handleBy (.ref z) X.env hds2) _ _ _
          exact ih (no rfl)
    exact walk cl w
  · rcases f with _ | _ | _ | u
    · obtain ⟨_, _, J', q⟩ := out
      exact wpAny_execs_nil ⟨_, _, J'.ofTry okX, q⟩
    · obtain ⟨_, _, J', q⟩ := out
      exact ⟨_, _, J'.ofTry okX, q⟩
    · obtain ⟨_, _, J', q⟩ := out
      exact ⟨_, _, J'.ofTry okX, q⟩
    · obtain ⟨_, _, _, J', r, q⟩ := out
      exact ⟨_, _, _, J'.ofTry okX, r, q⟩
end
/-! ### repr of an int or None -/
def reprN : Option Int → Str
  | some k => Str.ofString (toString k)
  | none => Str.ofString "None"
def optI : Option Int → V
  | some k => .int k
  | none => .non
def rReprN : List V → Hp → VK → Prop := fun xs H Q => ∃ o : Option Int, xs = [optI o] ∧ (∀ k, o = some k → k.natAbs.log2 < 1920) ∧ Q (.str (reprN o)) H
theorem cr_reprN {X : Cx} : CallR X (.builtin "repr") rReprN := by
  intro pins s σ H xs us Q I r h
  obtain ⟨o, rfl, hb, q⟩ := h
  obtain ⟨u, rfl, ru⟩ := vals1 r
  cases o with
  | none =>
    cases (show u = Value.none from ru)
    exact P.repr_of_none ⟨.str _, H, I.tok _, ⟨_, rfl⟩, q⟩
  | some k =>
    obtain ⟨t, rfl⟩ := (show ∃ t, u = Value.int k t from ru)
    exact P.repr_of_int (hb k rfl) ⟨.str _, H, I.tok _, ⟨_, rfl⟩, q⟩
end Ty

namespace Xb
open PySem PySem.Spec PyProof.Rows L2
/-- isinstance of the caught error, whose own dict is known -/
structure IsC (K : PySem.W.Frag) (C : Addr) : Prop where
  cl : (PySem.W.clsIn K C).isSome = true
  ga : PySem.W.findIn K (.ref C) "__getattribute__" = some (some (.builtin "BaseException.__getattribute__"))
  gg : PySem.W.findIn K (.ref C) "__getattr__" = some none
  ex : PySem.W.subIn K (.ref C) (.type "BaseException") = some true
  c1 : PySem.W.findIn K (.ref C) "__class__" = some (some (.builtin "object.__class__"))
  c2 : PySem.W.specialIn K (.builtin "object.__class__") "__get__" = some (some (.builtin "getset_descriptor.__get__"))
  c3 : PySem.W.takesIn K (.builtin "object.__class__") = some true
  c4 : PySem.W.mroIn K C (.type "object") = some true
def rIsAt (K : PySem.W.Frag) (a : Addr) (cls : Value) (d : Option Addr) (C : Addr) : List V → Hp → VK → Prop := fun xs H Q => cls = .ref C ∧ ∃ (c : V) (cv : Value) (b : Bool) (dd : Addr) (fs : List (Str × V)), xs = [.ref a, c] ∧ d = some dd ∧ H dd = some (.xd fs) ∧ (∀ u, RelV c u → u = cv) ∧ PySem.W.kitOne K (.ref C) cv = some b ∧ Q (.bl b) H
theorem call_isAt {X : Cx} {a C : Addr} {cls : Value} {d : Option Addr} {oe : Obj} {pn : List (Addr × Obj)} (T : IsC X.K C) (hz : Zc cls d oe) (hf : ∃ vs, oe.data = .fields vs) : CallR (X.suite a ((a, oe) :: pn)) (.builtin "isinstance") (rIsAt X.K a cls d C) := by
  intro pins s σ H xs us Q I r h
  obtain ⟨rfl, c, cv, b, dd, fs, rfl, rfl, ea, hcv, e, q⟩ := h
  match us, r with
  | [_, _], .cons r1 (.cons r2 .nil) =>
    cases r1
    have ec := hcv _ r2
    subst ec
    have pin := (I.pin (a, oe) (List.mem_append.mpr (.inl List.mem_cons_self))).1
    obtain ⟨vs, hv⟩ := hf
    obtain ⟨mA, hns, _⟩ := (I.hok dd _ ea : ObjOk X.prog X.w H s.heap dd (.xd fs))
    obtain ⟨od, ho, _⟩ := lookIn_ns hns
    have J : PySem.W.InstAt s.heap a oe C (some od) := ⟨pin, hz.1, by unfold PySem.W.notCls; rw [hv] <;> rfl, by rw [hz.2]; exact ho⟩
    exact PySem.W.kia_one (PySem.W.kitx_exc T.cl T.ga T.gg T.ex T.c1 T.c2 T.c3 T.c4) I.kIn J e (by intro z; cases z) fun tk => ⟨.bl b, H, I.kept (t' := tk) fun _ _ z => z, rfl, q⟩
end Xb

namespace K6
open PySem PySem.Spec PyProof.Rows L2 Hb St Sq Ow En Zp RZ Rd Xb Da Lg LamX Ty
/-! ### _law_told -/
abbrev s__law_told : Stmt := top 42
theorem sc__law_told : FnScope ["work", "wrong"] ["work"] (defScope s__law_told) := ⟨rfl, rfl, rfl, by decide +kernel, rfl, by decide +kernel, by decide +kernel⟩
/-- what a told error leaves: the two ends of its list -/
def eTold (K : PySem.W.Frag) (C R : Addr) (Q : VK) : XK := fun cls d H => ∃ (dd : Addr) (k : Int), d = some dd ∧ H dd = some (errH k) ∧
  ((cls = .ref C ∧ ∀ t H', Same H H' → H' t = some (.lst [.str (Str.ofString "heard"), .int k]) → Q (.ref t) H') ∨
   (cls = .ref R ∧ ∀ t H', Same H H' → H' t = some (.lst [.str (Str.ofString "refused"), .int k]) → Q (.ref t) H'))
def TTold2 (K : PySem.W.Frag) (C R : Addr) : (XK → Hp → VK → Prop) → Hp → VK → Prop := fun tl H Q => tl (eTold K C R Q) H Q
theorem told2 {X : Cx} {q : Str} {g C R fC fR : Addr} {cdg : Value} (T : ErrC X.K X.mg "InvalidHeard" C fC) (TR : ErrC X.K X.mg "Refused" R fR) (eRC : PySem.W.exmOne X.K (.ref R) (.ref C) = some false) :
    GivesTo X ["work", "wrong"] "_law_told" (defScope s__law_told) g cdg (defBody s__law_told) "work" q (TTold2 X.K C R) := by
  intro f c' s H Q tl act hc h
  refine ⟨_, pss_one (ps_try_asM (X := (cxOf C8.CX0 X.prog X.w X.K X.mg X.base ["work", "wrong"] "_law_told" (defScope s__law_told) g cdg X.A X.stack s H C8.E0).nox) (i := 1) (n := "wrong")
      (l := [(.ref C, _), (.ref R, _)])
      (tb := fun W D σ H => ∃ Ech : XK, (∀ cls d σ' H', Ech cls d H' → W cls d σ' H') ∧ σ[0]? = some (some (.ref f)) ∧ H c' = some (CodeO c' q) ∧ tl Ech H D.rt)
      rfl rfl sc__law_told.nd rfl rfl LamX.takes0 (fun W pn xe tk _ => ?_)
      (.cons ⟨rfl, by decide, .inl T.gC⟩ (fun a oe cls d pn hz hf => pss_one (ps_ret (pe_lst (pa_cons pe_str (pa_cons (pe_xf T.xf T.noN hz hf (pv 1)) pa_nil)))))
        (.cons ⟨rfl, by decide, .inl TR.gC⟩ (fun a oe cls d pn hz hf => pss_one (ps_ret (pe_lst (pa_cons pe_str (pa_cons (pe_xf TR.xf TR.noN hz hf (pv 1)) pa_nil))))) .nil))), ?_⟩
  · refine ⟨fun pins s' σ H' D I h' => ?_⟩
    obtain ⟨Ech, hW, h1, h2, h3⟩ := h'
    exact (pss_one (ps_ret (act W pn xe Ech _ _ tk hW))).run pins s' σ H' D I ⟨h1, h2, h3⟩
  · refine ⟨eTold X.K C R Q, fun cls d σ' H' he => ?_, rfl, hc, h⟩
    obtain ⟨dd, k, rfl, ed, ⟨rfl, hq⟩ | ⟨rfl, hq⟩⟩ := he
    · refine ⟨true, T.te, fun _ z hz ln => ?_, fun y => (by cases y)⟩
      match σ', ln with
      | [o0, o1], _ =>
        refine ⟨_, rfl, rfl, rfl, dd, _, .int k, rfl, ed, rfl, by show 2 ≤ sizeLine; decide, fun t ht => hq t _ (same_new ht _) upd_same⟩
    · refine ⟨false, eRC, fun y => (by cases y), fun _ => ⟨true, TR.te, fun _ z hz ln => ?_, fun y => (by cases y)⟩⟩
      match σ', ln with
      | [o0, o1], _ =>
        refine ⟨_, rfl, rfl, rfl, dd, _, .int k, rfl, ed, rfl, by show 2 ≤ sizeLine; decide, fun t ht => hq t _ (same_new ht _) upd_same⟩
end K6

namespace K6
open PySem PySem.Spec PyProof.Rows L2 Hb St Sq Ow En Zp RZ Rd Xb Da Lg
/-! ### drawn tales as data -/
def tD (ls : List (List Str)) : PyData := .tuple (ls.map fun l => .tuple (l.map .str))
theorem nm_B {x : Str} (h : IsNm x) : nmB x = true := by
  unfold nmB
  rw [decide_eq_true h.2.1, nm_ascii h, nm_alpha h, nm_lower h]; rfl
theorem asc_D : ∀ l : List Str, l.Pairwise sLt → ascD (l.map .str) = true
  | [], _ => rfl
  | [_], _ => rfl
  | x :: y :: r, h => by
    obtain ⟨h1, h2⟩ := List.pairwise_cons.mp h
    show (decide (x.cps.toList < y.cps.toList) && ascD ((y :: r).map .str)) = true
    rw [asc_D (y :: r) h2, decide_eq_true (show x.cps.toList < y.cps.toList from h1 y List.mem_cons_self)]; rfl
theorem lot_D {nms l : List Str} (nok : NsOk nms) (h : LotOk nms l) : lotD (.tuple (l.map .str)) = true := by
  obtain ⟨h1, h2, h3⟩ := h
  show (!(l.map PyData.str).isEmpty && ((l.map PyData.str).all nmD && ascD (l.map .str))) = true
  have e1 : (l.map PyData.str).isEmpty = false := by cases l with | nil => exact absurd rfl h1 | cons _ _ => rfl
  have e2 : (l.map PyData.str).all nmD = true := by
    rw [List.all_map, List.all_eq_true]
    exact fun x hx => nm_B (nok.nm x (h3 x hx))
  rw [e1, e2, asc_D l h2]; rfl
theorem tale_D {nms : List Str} {ls : List (List Str)} (nok : NsOk nms) (h : ∀ x ∈ ls, LotOk nms x) : taleD (tD ls) = true := by
  show (ls.map fun l => PyData.tuple (l.map .str)).all lotD = true
  rw [List.all_map, List.all_eq_true]
  exact fun l hl => lot_D nok (h l hl)
theorem lot_len {nms l : List Str} (nok : NsOk nms) (h : LotOk nms l) : l.length ≤ 4 := Nat.le_trans (nodup_len (asc_nodupS h.2.1) h.2.2) nok.ln
theorem lot_sm {nms l : List Str} (nok : NsOk nms) (h : LotOk nms l) : Sm1 (.tuple (l.map .str)) := by
  refine ⟨by rw [List.length_map]; have := lot_len nok h; omega, fun d hd => ?_⟩
  obtain ⟨x, hx, rfl⟩ := List.mem_map.mp hd
  have := (nok.nm x (h.2.2 x hx)).2.1
  show x.length ≤ 1000
  omega
theorem tale_sm {nms : List Str} {ls : List (List Str)} (nok : NsOk nms) (h : ∀ x ∈ ls, LotOk nms x) (n : ls.length ≤ 1000) : Sm2 (tD ls) := by
  refine ⟨by rw [List.length_map]; exact n, fun d hd => ?_⟩
  obtain ⟨l, hl, rfl⟩ := List.mem_map.mp hd
  exact lot_sm nok (h l hl)
theorem tale_dp {K : PySem.W.Frag} {H : Hp} {t : Addr} {its : List V} {ls : List (List Str)} (e : H t = some (.tup its)) (al : All2 (LotH H) its ls) : Dp K H (.ref t) (tD ls) := .tup (SqT.of e) (dp_all (fun _ _ h => h.dp) al)
theorem lotH_S {K : PySem.W.Frag} {H : Hp} {v : V} {l : List Str} (h : LotH H v l) : TupS K H v l := let ⟨b, e, t⟩ := h; ⟨b, e, SqT.of t⟩
theorem tin_of {K : PySem.W.Frag} {H : Hp} {t u : Addr} {its jts : List V} {nms : List Str} {ls hs : List (List Str)} (nok : NsOk nms) (et : H t = some (.tup its)) (eu : H u = some (.tup jts)) (al : All2 (LotH H) its ls) (bl : All2 (LotH H) jts hs)
    (okl : ∀ x ∈ ls, LotOk nms x) (okh : ∀ x ∈ hs, LotOk nms x) (n : ls.length ≤ 1000) (m : hs.length ≤ 1000) : TIn K H (.ref t) (.ref u) (tD ls) (tD hs) ls hs :=
  ⟨tale_dp et al, tale_dp eu bl, tale_sm nok okl n, tale_sm nok okh m, fun _ => ⟨t, u, rfl, rfl, ⟨its, et, al.imp fun _ _ h => lotH_S h⟩, ⟨jts, eu, bl.imp fun _ _ h => lotH_S h⟩⟩, n, m, fun h hh => by have := lot_len nok (okh h hh); omega, fun h hh => by have := lot_len nok (okl h hh); omega⟩
theorem no_first {d e : PyData} (h1 : taleD d = true) (h2 : taleD e = true) : firstNo [d, e] = none := by
  unfold firstNo
  rw [List.findIdx?_eq_none_iff]
  intro x hx
  simp only [List.mem_cons, List.not_mem_nil, or_false] at hx
  rcases hx with rfl | rfl
  · rw [h1]; rfl
  · rw [h2]; rfl
theorem first_0 {d e : PyData} (h1 : taleD d = false) : firstNo [d, e] = some 0 := by
  unfold firstNo
  rw [List.findIdx?_cons, h1]; rfl
theorem first_1 {d e : PyData} (h1 : taleD d = true) (h2 : taleD e = false) : firstNo [d, e] = some 1 := by
  unfold firstNo
  rw [List.findIdx?_cons, h1, List.findIdx?_cons, h2]; rfl
theorem lays_nil (ls hs : List (List Str)) : laysL ls hs = [] ↔ stuckN ls hs = some (grL ls hs).length := by
  have g := Ks.gr_len (n := ls.length) (ok := okL ls) hs 0
  have w := Ks.gr_whole (n := ls.length) (ok := okL ls) (hs := hs)
  unfold stuckN
  constructor
  · intro z
    have : ¬ (Ks.gr ls.length (okL ls) hs 0).length = hs.length := fun e => w.mp e z
    rw [if_pos (show (grL ls hs).length < hs.length by unfold grL; omega)]
  · intro z
    by_cases c : (grL ls hs).length < hs.length
    · exact Classical.byContradiction fun y => by have := w.mpr y; unfold grL at c; omega
    · rw [if_neg c] at z; cases z
theorem lays_ne {ls hs : List (List Str)} (h : laysL ls hs ≠ []) : stuckN ls hs = none := by
  have w := (Ks.gr_whole (n := ls.length) (ok := okL ls) (hs := hs)).mpr h
  unfold stuckN grL
  rw [if_neg (by omega)]
/-- what stands when all is drawn -/
structure Wst (K : PySem.W.Frag) (Pt p l nb a b cc tt uu : Addr) (nms : List Str) (ls hs : List (List Str)) (H : Hp) : Prop where
  eP : H Pt = some (.tbl #[])
  hd : DealAt H p l
  en : H nb = some (.tup (nms.map V.str))
  nok : NsOk nms
  ea : ∃ its jts, H a = some (.lst its) ∧ H b = some (.lst jts) ∧ H tt = some (.tup its) ∧ H uu = some (.tup jts) ∧ All2 (LotH H) its ls ∧ All2 (LotH H) jts hs
  okl : ∀ x ∈ ls, LotOk nms x
  okh : ∀ x ∈ hs, LotOk nms x
  ll : ls.length ≤ 7
  lh : hs.length ≤ 8
  ec : ∃ kts, H cc = some (.lst kts) ∧ All2 (TupN H) kts (laysL ls hs)
theorem Wst.same {K : PySem.W.Frag} {Pt p l nb a b cc tt uu : Addr} {nms : List Str} {ls hs : List (List Str)} {H H' : Hp} (w : Wst K Pt p l nb a b cc tt uu nms ls hs H) (s : Same H H') : Wst K Pt p l nb a b cc tt uu nms ls hs H' := by
  obtain ⟨its, jts, e1, e2, e3, e4, al, bl⟩ := w.ea
  obtain ⟨kts, e5, cl⟩ := w.ec
  exact ⟨s _ _ w.eP, w.hd.same s, s _ _ w.en, w.nok, ⟨its, jts, s _ _ e1, s _ _ e2, s _ _ e3, s _ _ e4, al.imp fun _ _ t => t.fix (Fix.of s), bl.imp fun _ _ t => t.fix (Fix.of s)⟩, w.okl, w.okh, w.ll, w.lh, ⟨kts, s _ _ e5, cl.imp fun _ _ t => t.same (Fix.of s)⟩⟩
theorem Wst.tin {K : PySem.W.Frag} {Pt p l nb a b cc tt uu : Addr} {nms : List Str} {ls hs : List (List Str)} {H : Hp} (w : Wst K Pt p l nb a b cc tt uu nms ls hs H) : TIn K H (.ref tt) (.ref uu) (tD ls) (tD hs) ls hs := by
  obtain ⟨its, jts, e1, e2, e3, e4, al, bl⟩ := w.ea
  exact tin_of w.nok e3 e4 al bl w.okl w.okh (by have := w.ll; omega) (by have := w.lh; omega)
theorem Wst.no {K : PySem.W.Frag} {Pt p l nb a b cc tt uu : Addr} {nms : List Str} {ls hs : List (List Str)} {H : Hp} (w : Wst K Pt p l nb a b cc tt uu nms ls hs H) : firstNo [tD ls, tD hs] = none := no_first (tale_D w.nok w.okl) (tale_D w.nok w.okh)
theorem notbl {xs : List V} : ∀ ps, HO.tup xs ≠ .tbl ps := fun ps z => by cases z
theorem notbl_l {xs : List V} : ∀ ps, HO.lst xs ≠ .tbl ps := fun ps z => by cases z
theorem lotH_ext {H H' : Hp} {v : V} {l : List Str} (h : LotH H v l) (e : LamX.ExtN H H') : LotH H' v l := let ⟨b, ev, eb⟩ := h; ⟨b, ev, e _ _ eb notbl⟩
theorem Wst.tinX {K : PySem.W.Frag} {Pt p l nb a b cc tt uu : Addr} {nms : List Str} {ls hs : List (List Str)} {H H' : Hp} (w : Wst K Pt p l nb a b cc tt uu nms ls hs H) (e : LamX.ExtN H H') : TIn K H' (.ref tt) (.ref uu) (tD ls) (tD hs) ls hs := by
  obtain ⟨its, jts, e1, e2, e3, e4, al, bl⟩ := w.ea
  exact tin_of w.nok (e _ _ e3 notbl) (e _ _ e4 notbl) (al.imp fun _ _ h => lotH_ext h e) (bl.imp fun _ _ h => lotH_ext h e) w.okl w.okh (by have := w.ll; omega) (by have := w.lh; omega)
theorem due_sh (m : Int) : SeqAt.shaped (.list [.str (Str.ofString "refused"), .int m, .bool false]) = true := by
  unfold SeqAt.shaped
  show ((PyData.strOk (Str.ofString "refused") && (true && (true && true))) && decide (max 0 (max 0 (max 0 0)) + 1 ≤ 64)) = true
  rw [show PyData.strOk (Str.ofString "refused") = true by clear m; decide +kernel]; rfl
theorem heard_sh (m : Int) : SeqAt.shaped (.list [.str (Str.ofString "heard"), .int m]) = true := by
  unfold SeqAt.shaped
  show ((PyData.strOk (Str.ofString "heard") && (true && true)) && decide (max 0 (max 0 0) + 1 ≤ 64)) = true
  rw [show PyData.strOk (Str.ofString "heard") = true by clear m; decide +kernel]; rfl
theorem sh_refl {d : PyData} (h : SeqAt.shaped d = true) : PyData.eqv d d = true := SeqAt.eqv_refl _ (SeqAt.canLay_of_shaped h)
end K6

/-! mathematics of k87: which events are heard, or silent, in all layings; how many tales may be heard -/
namespace K6
open PySem PySem.Spec PyProof.Rows L2 Hb St Sq Ow En Zp RZ Rd
abbrev LotT := List Str
/-! ### layings, lot by lot -/
def Emb : List LotT → List LotT → Prop
  | _, [] => True
  | [], _ :: _ => False
  | l :: ls, h :: hs => (prt h l = true ∧ Emb ls hs) ∨ Emb ls (h :: hs)
theorem emb_nil (ls : List LotT) : Emb ls [] := by cases ls <;> trivial
theorem emb_cons (l h : LotT) (ls hs : List LotT) : Emb (l :: ls) (h :: hs) ↔ (prt h l = true ∧ Emb ls hs) ∨ Emb ls (h :: hs) := by
  rw [Emb]
theorem okL_up (l : LotT) (ls : List LotT) (h : LotT) (i : Nat) : okL (l :: ls) h (i + 1) = okL ls h i := rfl
abbrev LayL (ls hs : List LotT) (laid : List Nat) : Prop := Ks.IsLay ls.length (okL ls) hs laid
theorem lay_up {l : LotT} {ls hs : List LotT} {laid : List Nat} (h : LayL ls hs laid) : LayL (l :: ls) hs (laid.map (· + 1)) := by
  refine ⟨by rw [List.length_map]; exact h.len, List.Pairwise.map _ (fun a b (h : a < b) => Nat.succ_lt_succ h) h.asc, fun i a g ha hg => ?_⟩
  rw [List.getElem?_map] at ha
  cases e : laid[i]? with
  | none => rw [e] at ha; cases ha
  | some b =>
    rw [e] at ha
    cases (Option.some.inj ha : b + 1 = a)
    obtain ⟨h1, h2⟩ := h.fit i b g e hg
    exact ⟨Nat.succ_lt_succ h1, h2⟩
theorem lay_down {l : LotT} {ls hs : List LotT} {laid : List Nat} (h : LayL (l :: ls) hs laid) (p : ∀ a ∈ laid, 0 < a) : LayL ls hs (laid.map (· - 1)) := by
  refine ⟨by rw [List.length_map]; exact h.len, ?_, fun i a g ha hg => ?_⟩
  · rw [List.pairwise_map]
    refine List.Pairwise.imp_of_mem (fun {a b} ha hb (z : a < b) => ?_) h.asc
    have := p a ha
    omega
  · rw [List.getElem?_map] at ha
    cases e : laid[i]? with
    | none => rw [e] at ha; cases ha
    | some b =>
      rw [e] at ha
      obtain ⟨h1, h2⟩ := h.fit i b g e hg
      have hb := p b (List.mem_of_getElem? e)
      obtain ⟨c, rfl⟩ : ∃ c, b = c + 1 := ⟨b - 1, by omega⟩
      cases (Option.some.inj ha : c + 1 - 1 = a)
      exact ⟨Nat.lt_of_succ_lt_succ h1, h2⟩
theorem lay_tail {ls hs : List LotT} {h : LotT} {a : Nat} {laid : List Nat} (z : LayL ls (h :: hs) (a :: laid)) : LayL ls hs laid ∧ (∀ b ∈ laid, a < b) ∧ a < ls.length ∧ okL ls h a = true := by
  obtain ⟨h1, h2⟩ := z.fit 0 a h rfl rfl
  exact ⟨⟨by simpa using z.len, (List.pairwise_cons.mp z.asc).2, fun i b g hb hg => z.fit (i + 1) b g hb hg⟩, (List.pairwise_cons.mp z.asc).1, h1, h2⟩
theorem lay_cons {ls hs : List LotT} {h : LotT} {a : Nat} {laid : List Nat} (z : LayL ls hs laid) (p : ∀ b ∈ laid, a < b) (q : a < ls.length) (r : okL ls h a = true) : LayL ls (h :: hs) (a :: laid) := by
  refine ⟨by rw [List.length_cons, List.length_cons, z.len], List.pairwise_cons.mpr ⟨p, z.asc⟩, fun i b g hb hg => ?_⟩
  cases i with
  | zero => cases hb; cases hg; exact ⟨q, r⟩
  | succ i => exact z.fit i b g hb hg
theorem emb_lay : ∀ (ls hs : List LotT), (∃ laid, LayL ls hs laid) ↔ Emb ls hs
  | ls, [] => ⟨fun _ => emb_nil ls, fun _ => ⟨[], rfl, .nil, fun i a g h => by cases h⟩⟩
  | [], h :: hs => ⟨fun ⟨laid, z⟩ => by
      cases laid with
      | nil => have := z.len; cases this
      | cons a r => exact absurd (lay_tail z).2.2.1 (Nat.not_lt_zero _), fun z => z.elim⟩
  | l :: ls, h :: hs => by
    rw [emb_cons, ← emb_lay ls hs, ← emb_lay ls (h :: hs)]
    constructor
    · rintro ⟨laid, z⟩
      cases laid with
      | nil => have := z.len; cases this
      | cons a r =>
        obtain ⟨z1, z2, z3, z4⟩ := lay_tail z
        cases a with
        | zero => exact .inl ⟨z4, _, lay_down z1 z2⟩
        | succ a => exact .inr ⟨_, lay_down z fun b hb => by
            rcases List.mem_cons.mp hb with rfl | hb
            · omega
            · have := z2 b hb; omega⟩
    · rintro (⟨p, laid, z⟩ | ⟨laid, z⟩)
      · refine ⟨0 :: laid.map (· + 1), lay_cons (lay_up z) (fun b hb => ?_) (Nat.succ_pos _) p⟩
        obtain ⟨c, _, rfl⟩ := List.mem_map.mp hb
        omega
      · exact ⟨_, lay_up z⟩
theorem lays_emb (ls hs : List LotT) : laysL ls hs ≠ [] ↔ Emb ls hs := by
  rw [← emb_lay]
  constructor
  · intro h
    obtain ⟨l, r, e⟩ := List.exists_cons_of_ne_nil h
    exact ⟨l, Ks.mem_lay.mp (by show l ∈ laysL ls hs; rw [e]; exact List.mem_cons_self)⟩
  · rintro ⟨l, z⟩ e
    have : l ∈ laysL ls hs := Ks.mem_lay.mpr z
    rw [e] at this; cases this
theorem prt_nil {h : LotT} (n : h ≠ []) : prt h [] = false := by
  obtain ⟨x, r, rfl⟩ := List.exists_cons_of_ne_nil n
  unfold prt
  simp
theorem emb_empty : ∀ (A B hs : List LotT), (∀ h ∈ hs, h ≠ []) → (Emb (A ++ [] :: B) hs ↔ Emb (A ++ B) hs)
  | A, B, [], _ => ⟨fun _ => emb_nil _, fun _ => emb_nil _⟩
  | [], B, h :: hs, n => by
    show Emb ([] :: B) (h :: hs) ↔ Emb B (h :: hs)
    rw [emb_cons, prt_nil (n h (.head _))]
    simp
  | l :: A, B, h :: hs, n => by
    show Emb (l :: (A ++ [] :: B)) (h :: hs) ↔ Emb (l :: (A ++ B)) (h :: hs)
    rw [emb_cons, emb_cons, emb_empty A B hs (fun g m => n g (.tail _ m)), emb_empty A B (h :: hs) n]
/-! ### one event left out -/
def restN (ls : List LotT) (x : Str) (n : Nat) : LotT := (ls.getD n []).filter fun y => !decide (y = x)
def silN (ls : List LotT) (x : Str) (n : Nat) : List LotT := ls.take n ++ (if restN ls x n = [] then [] else [restN ls x n]) ++ ls.drop (n + 1)
def usesB (hs : List LotT) (x : Str) (n : Nat) (laid : List Nat) : Bool := (laid.zip hs).any fun p => decide (p.1 = n) && decide (x ∈ p.2)
theorem uses_iff {hs : List LotT} {x : Str} {n : Nat} {laid : List Nat} : usesB hs x n laid = true ↔ ∃ (i : Nat) (g : LotT), laid[i]? = some n ∧ hs[i]? = some g ∧ x ∈ g := by
  unfold usesB
  rw [List.any_eq_true]
  constructor
  · rintro ⟨p, hp, e⟩
    obtain ⟨i, ei⟩ := List.mem_iff_getElem?.mp hp
    obtain ⟨e1, e2⟩ := List.getElem?_zip_eq_some.mp ei
    rw [Bool.and_eq_true, decide_eq_true_iff, decide_eq_true_iff] at e
    exact ⟨i, p.2, by rw [e1, e.1], e2, e.2⟩
  · rintro ⟨i, g, e1, e2, e3⟩
    exact ⟨(n, g), List.mem_iff_getElem?.mpr ⟨i, List.getElem?_zip_eq_some.mpr ⟨e1, e2⟩⟩, by rw [Bool.and_eq_true, decide_eq_true_iff, decide_eq_true_iff]; exact ⟨rfl, e3⟩⟩
theorem prt_rest (g l : LotT) (x : Str) : prt g (l.filter fun y => !decide (y = x)) = (prt g l && !decide (x ∈ g)) := by
  unfold prt
  rw [Bool.eq_iff_iff, Bool.and_eq_true, List.all_eq_true, List.all_eq_true, Bool.not_eq_true', decide_eq_false_iff_not]
  constructor
  · intro h
    refine ⟨fun y hy => decide_eq_true (List.mem_filter.mp (of_decide_eq_true (h y hy))).1, fun hx => ?_⟩
    have := (List.mem_filter.mp (of_decide_eq_true (h x hx))).2
    simp at this
  · rintro ⟨h, n⟩ y hy
    exact decide_eq_true (List.mem_filter.mpr ⟨of_decide_eq_true (h y hy), by simpa using fun z : y = x => n (z ▸ hy)⟩)
theorem ok_set {ls : List LotT} {x : Str} {n : Nat} (hn : n < ls.length) (g : LotT) (a : Nat) : okL (ls.set n (restN ls x n)) g a = (okL ls g a && !(decide (a = n) && decide (x ∈ g))) := by
  unfold okL
  by_cases c : a = n
  · subst c
    rw [List.getD_eq_getElem?_getD, List.getElem?_set_self hn]
    show prt g (restN ls x a) = _
    unfold restN
    rw [prt_rest, decide_eq_true rfl, Bool.true_and]
  · rw [List.getD_eq_getElem?_getD, List.getElem?_set_ne (fun e => c e.symm), ← List.getD_eq_getElem?_getD, decide_eq_false c, Bool.false_and, Bool.not_false, Bool.and_true]
theorem lay_set {ls hs : List LotT} {x : Str} {n : Nat} (hn : n < ls.length) {laid : List Nat} : LayL (ls.set n (restN ls x n)) hs laid ↔ LayL ls hs laid ∧ usesB hs x n laid = false := by
  constructor
  · intro z
    have fit : ∀ (i : Nat) a g, laid[i]? = some a → hs[i]? = some g → (a < ls.length ∧ okL ls g a = true) ∧ ¬ (a = n ∧ x ∈ g) := fun i a g h1 h2 => by
      obtain ⟨p, q⟩ := z.fit i a g h1 h2
      rw [ok_set hn, Bool.and_eq_true, Bool.not_eq_true', Bool.and_eq_false_iff, decide_eq_false_iff_not, decide_eq_false_iff_not] at q
      rw [List.length_set] at p
      exact ⟨⟨p, q.1⟩, fun ⟨c, d⟩ => q.2.elim (· c) (· d)⟩
    refine ⟨⟨z.len, z.asc, fun i a g h1 h2 => (fit i a g h1 h2).1⟩, ?_⟩
    rw [← Bool.not_eq_true]
    intro u
    obtain ⟨i, g, e1, e2, e3⟩ := uses_iff.mp u
    exact (fit i n g e1 e2).2 ⟨rfl, e3⟩
  · rintro ⟨z, u⟩
    refine ⟨z.len, z.asc, fun i a g h1 h2 => ?_⟩
    obtain ⟨p, q⟩ := z.fit i a g h1 h2
    rw [List.length_set, ok_set hn, q, Bool.true_and, Bool.not_eq_true']
    refine ⟨p, ?_⟩
    rw [Bool.and_eq_false_iff, decide_eq_false_iff_not, decide_eq_false_iff_not]
    by_cases c : a = n
    · refine .inr fun hx => ?_
      rw [← Bool.not_eq_true] at u
      exact u (uses_iff.mpr ⟨i, g, by rw [h1, c], h2, hx⟩)
    · exact .inl c
theorem set_cut {ls : List LotT} {n : Nat} {r : LotT} (hn : n < ls.length) : ls.set n r = ls.take n ++ [r] ++ ls.drop (n + 1) := by
  rw [List.set_eq_take_append_cons_drop, if_pos hn, List.append_assoc]; rfl
theorem sil_lays {ls hs : List LotT} {x : Str} {n : Nat} (hn : n < ls.length) (ne : ∀ h ∈ hs, h ≠ []) : laysL (silN ls x n) hs = [] ↔ ∀ laid ∈ laysL ls hs, usesB hs x n laid = true := by
  have e1 : Emb (silN ls x n) hs ↔ Emb (ls.set n (restN ls x n)) hs := by
    rw [set_cut hn]
    unfold silN
    by_cases c : restN ls x n = []
    · rw [if_pos c, c, List.append_nil, List.append_assoc]
      exact (emb_empty _ _ _ ne).symm
    · rw [if_neg c]
  have e2 : laysL (silN ls x n) hs ≠ [] ↔ ∃ laid, LayL ls hs laid ∧ usesB hs x n laid = false := by
    rw [lays_emb, e1, ← emb_lay]
    exact exists_congr fun laid => lay_set hn
  constructor
  · intro z laid hl
    by_cases c : usesB hs x n laid = true
    · exact c
    · exact absurd z (e2.mpr ⟨laid, Ks.mem_lay.mp hl, by simpa using c⟩)
  · intro h
    apply Classical.byContradiction
    intro z
    obtain ⟨laid, hl, u⟩ := e2.mp z
    rw [h laid (Ks.mem_lay.mpr hl)] at u
    cases u
/-- as the law asks -/
def usesL (hs : List LotT) (x : Str) (n : Nat) (laid : List Nat) : Bool := decide (n ∈ laid) && decide (x ∈ hs.getD (laid.idxOf n) [])
theorem uses_law {ls hs : List LotT} {x : Str} {n : Nat} {laid : List Nat} (z : LayL ls hs laid) : usesL hs x n laid = usesB hs x n laid := by
  rw [Bool.eq_iff_iff, uses_iff]
  unfold usesL
  rw [Bool.and_eq_true, decide_eq_true_iff, decide_eq_true_iff]
  have nd : laid.Nodup := z.asc.imp fun {a b} (h : a < b) => Nat.ne_of_lt h
  constructor
  · rintro ⟨m, hx⟩
    have li := List.idxOf_lt_length_of_mem m
    have lh : laid.idxOf n < hs.length := by rw [← z.len]; exact li
    refine ⟨laid.idxOf n, hs[laid.idxOf n], ?_, List.getElem?_eq_getElem lh, ?_⟩
    · rw [List.getElem?_eq_getElem li, List.getElem_idxOf]
    · rw [List.getD_eq_getElem?_getD, List.getElem?_eq_getElem lh] at hx
      exact hx
  · rintro ⟨i, g, e1, e2, e3⟩
    have m := List.mem_of_getElem? e1
    refine ⟨m, ?_⟩
    have li := List.idxOf_lt_length_of_mem m
    obtain ⟨hi, ei⟩ := List.getElem?_eq_some_iff.mp e1
    have : laid.idxOf n = i := (List.getElem_inj nd (h₀ := li) (h₁ := hi)).mp (by rw [List.getElem_idxOf, ei])
    rw [this, List.getD_eq_getElem?_getD, e2]
    exact e3
/-- what may_lie tells -/
theorem may_iff {ls hs : List LotT} (no : stuckN ls hs = none) (x : Str) (n : Nat) : (∃ (i : Nat) (g : LotT) (ns : List Nat), hs[i]? = some g ∧ (mayL ls hs)[i]? = some ns ∧ n ∈ ns ∧ x ∈ g) ↔ ∃ laid ∈ laysL ls hs, usesB hs x n laid = true := by
  have ne := stuck_lays no
  have g1 := gr_lenN no
  have g2 := bk_lenN no
  have sp : ∀ (i : Nat) (g : LotT), hs[i]? = some g → ∃ b c, (mayL ls hs)[i]? = some (((List.range (c + 1 - b)).map (b + ·)).filter (okL ls g)) ∧ ((∃ l ∈ laysL ls hs, l[i]? = some n) ↔ (b ≤ n ∧ n ≤ c) ∧ okL ls g n = true) := fun i g hg => by
    have hi := (List.getElem?_eq_some_iff.mp hg).1
    have e2 := List.getElem?_eq_getElem (l := grL ls hs) (i := i) (by omega)
    have e3 := List.getElem?_eq_getElem (l := bkL ls hs) (i := i) (by omega)
    exact ⟨_, _, may_at hg e2 e3, Ks.spots ne hg e2 e3 n⟩
  have mm : ∀ (b c : Nat) (g : LotT), n ∈ ((List.range (c + 1 - b)).map (b + ·)).filter (okL ls g) ↔ (b ≤ n ∧ n ≤ c) ∧ okL ls g n = true := fun b c g => by
    rw [List.mem_filter, List.mem_map]
    refine and_congr_left fun _ => ⟨?_, fun ⟨h1, h2⟩ => ⟨n - b, List.mem_range.mpr (by omega), by omega⟩⟩
    rintro ⟨k, hk, rfl⟩
    have := List.mem_range.mp hk
    omega
  constructor
  · rintro ⟨i, g, ns, hg, hm, hn, hx⟩
    obtain ⟨b, c, e, iff⟩ := sp i g hg
    rw [e] at hm
    cases hm
    obtain ⟨l, hl, el⟩ := iff.mpr ((mm b c g).mp hn)
    exact ⟨l, hl, uses_iff.mpr ⟨i, g, el, hg, hx⟩⟩
  · rintro ⟨l, hl, u⟩
    obtain ⟨i, g, el, hg, hx⟩ := uses_iff.mp u
    obtain ⟨b, c, e, iff⟩ := sp i g hg
    exact ⟨i, g, _, hg, e, (mm b c g).mpr (iff.mp ⟨l, hl, el⟩), hx⟩
/-! ### events by turns -/
def turnN (ls : List LotT) (n : Nat) (x : Str) : Nat := ((ls.take (n + 1)).flatten).count x
def evR (ls : List LotT) (n : Nat) : List (Str × Nat) := (ls.getD n []).map fun x => (x, turnN ls n x)
def evF (ls : List LotT) : List (List (Str × Nat)) := (List.range ls.length).map (evR ls)
def sel (ls : List LotT) (want : Str → Nat → Bool) : List (Str × Nat) := (List.range ls.length).flatMap fun n => ((ls.getD n []).filter fun x => want x n).map fun x => (x, turnN ls n x)
theorem sel_congr {ls : List LotT} {f g : Str → Nat → Bool} (h : ∀ n, n < ls.length → ∀ x ∈ ls.getD n [], f x n = g x n) : sel ls f = sel ls g := by
  have go : ∀ l : List Nat, (∀ n ∈ l, n < ls.length) → (l.flatMap fun n => ((ls.getD n []).filter fun x => f x n).map fun x => (x, turnN ls n x)) = l.flatMap fun n => ((ls.getD n []).filter fun x => g x n).map fun x => (x, turnN ls n x) := fun l => by
    induction l with
    | nil => intro _; rfl
    | cons n r ih =>
      intro hl
      rw [List.flatMap_cons, List.flatMap_cons, ih fun m hm => hl m (.tail _ hm), List.filter_congr fun x hx => h n (hl n (.head _)) x hx]
  exact go _ fun n hn => List.mem_range.mp hn
def evL : List LotT → Str → Int → Nat → Option Nat
  | [], _, _, _ => none
  | l :: r, x, i, n => if x ∈ l then (if i - 1 = 0 then some n else evL r x (i - 1) (n + 1)) else evL r x i (n + 1)
theorem turn_cons (l : LotT) (r : List LotT) (n : Nat) (x : Str) : turnN (l :: r) (n + 1) x = l.count x + turnN r n x := by
  unfold turnN
  rw [List.take_succ_cons, List.flatten_cons, List.count_append]
theorem turn_pos : ∀ {ls : List LotT} {n : Nat} {x : Str}, x ∈ ls.getD n [] → 0 < turnN ls n x
  | [], n, x, h => by cases n <;> cases h
  | l :: r, 0, x, h => by
    unfold turnN
    rw [List.take_succ_cons, List.flatten_cons, List.count_append]
    have : 0 < l.count x := List.count_pos_iff.mpr h
    omega
  | l :: r, n + 1, x, h => by
    rw [turn_cons]
    have := turn_pos (ls := r) (n := n) (x := x) h
    omega
theorem evL_at : ∀ {ls : List LotT} {n : Nat} {x : Str} (m : Nat), (∀ l ∈ ls, l.Nodup) → x ∈ ls.getD n [] → evL ls x (turnN ls n x : Nat) m = some (m + n)
  | [], n, x, m, _, h => by cases n <;> cases h
  | l :: r, 0, x, m, nd, h => by
    have hx : x ∈ l := h
    have e : turnN (l :: r) 0 x = 1 := by
      unfold turnN
      rw [List.take_succ_cons, List.flatten_cons, List.count_append, List.take_zero, (nd l (.head _)).count, if_pos hx]; rfl
    rw [e]
    show (if x ∈ l then (if (((1 : Nat) : Int)) - 1 = 0 then some m else _) else _) = _
    rw [if_pos hx, if_pos (by decide)]; rfl
  | l :: r, n + 1, x, m, nd, h => by
    have hp := turn_pos (ls := r) (n := n) (x := x) h
    have ih := evL_at (ls := r) (n := n) (x := x) (m + 1) (fun l' hl => nd l' (.tail _ hl)) h
    rw [turn_cons]
    show (if x ∈ l then (if ((l.count x + turnN r n x : Nat) : Int) - 1 = 0 then some m else evL r x (((l.count x + turnN r n x : Nat) : Int) - 1) (m + 1)) else evL r x ((l.count x + turnN r n x : Nat) : Int) (m + 1)) = _
    by_cases c : x ∈ l
    · have e1 : l.count x = 1 := by rw [(nd l (.head _)).count, if_pos c]
      rw [if_pos c, e1, if_neg (by omega), show (((1 + turnN r n x : Nat) : Int) - 1) = ((turnN r n x : Nat) : Int) by omega, ih]
      congr 1; omega
    · have e0 : l.count x = 0 := List.count_eq_zero.mpr c
      rw [if_neg c, e0, Nat.zero_add, ih]
      congr 1; omega
theorem evL_no : ∀ {ls : List LotT} {x : Str} {i : Int} (m : Nat), (∀ l ∈ ls, x ∉ l) → evL ls x i m = none
  | [], _, _, _, _ => rfl
  | l :: r, x, i, m, h => by
    show (if x ∈ l then _ else evL r x i (m + 1)) = _
    rw [if_neg (h l (.head _))]
    exact evL_no (m + 1) fun l' hl => h l' (.tail _ hl)
theorem evL_far : ∀ {ls : List LotT} {x : Str} {i : Int} (m : Nat), (ls.length : Int) < i → evL ls x i m = none
  | [], _, _, _, _ => rfl
  | l :: r, x, i, m, h => by
    have h : ((r.length + 1 : Nat) : Int) < i := h
    show (if x ∈ l then (if i - 1 = 0 then some m else evL r x (i - 1) (m + 1)) else evL r x i (m + 1)) = _
    rw [evL_far (i := i - 1) (m + 1) (by omega), evL_far (i := i) (m + 1) (by omega)]
    by_cases c : x ∈ l
    · rw [if_pos c, if_neg (by omega)]
    · rw [if_neg c]
end K6

/-! how many tales may be heard -/
namespace K6
open PySem PySem.Spec PyProof.Rows L2 Hb St Sq Ow En Zp RZ Rd
/-! ### parts of a lot -/
def partsA (l : LotT) : List LotT := l.foldl (fun ps x => ps ++ ps.map fun p => p ++ [x]) [[]]
def PN (l : LotT) : List LotT := (partsA l).drop 1
theorem parts_go : ∀ (l : LotT) (q : List LotT), (∀ p ∈ q, p ≠ []) → ∃ q', l.foldl (fun ps x => ps ++ ps.map fun p => p ++ [x]) ([] :: q) = [] :: q' ∧ (∀ p ∈ q', p ≠ []) ∧ q'.length + 1 = (q.length + 1) * 2 ^ l.length
  | [], q, h => ⟨q, rfl, h, by simp⟩
  | x :: l, q, h => by
    obtain ⟨q', e, h', n⟩ := parts_go l (q ++ ([] :: q).map fun p => p ++ [x]) fun p hp => by
      rcases List.mem_append.mp hp with hp | hp
      · exact h p hp
      · obtain ⟨r, _, rfl⟩ := List.mem_map.mp hp
        simp
    refine ⟨q', e, h', ?_⟩
    rw [n, List.length_append, List.length_map, List.length_cons, List.length_cons, Nat.pow_succ, Nat.mul_comm (2 ^ l.length) 2, ← Nat.mul_assoc]
    congr 1
    omega
theorem parts_eq (l : LotT) : partsA l = [] :: PN l ∧ (∀ p ∈ PN l, p ≠ []) ∧ (partsA l).length = 2 ^ l.length := by
  obtain ⟨q, e, h, n⟩ := parts_go l [] fun _ h => by cases h
  have e : partsA l = [] :: q := e
  have e2 : PN l = q := by unfold PN; rw [e]; rfl
  refine ⟨by rw [e2]; exact e, by rw [e2]; exact h, by rw [e, List.length_cons, n]; simp⟩
/-! ### what may be heard -/
def EmbP : List LotT → List LotT → Prop
  | _, [] => True
  | [], _ :: _ => False
  | l :: ls, p :: t => (p ∈ PN l ∧ EmbP ls t) ∨ EmbP ls (p :: t)
theorem eP_nil (ls : List LotT) : EmbP ls [] := by cases ls <;> trivial
theorem eP_cons (l p : LotT) (ls t : List LotT) : EmbP (l :: ls) (p :: t) ↔ (p ∈ PN l ∧ EmbP ls t) ∨ EmbP ls (p :: t) := by rw [EmbP]
theorem eP_none (p : LotT) (t : List LotT) : ¬ EmbP [] (p :: t) := fun h => h.elim
theorem eP_drop {l : LotT} {ls t : List LotT} (h : EmbP ls t) : EmbP (l :: ls) t := by
  cases t with
  | nil => exact eP_nil _
  | cons p t => exact (eP_cons ..).mpr (.inr h)
theorem eP_tail : ∀ {ls : List LotT} {p : LotT} {t : List LotT}, EmbP ls (p :: t) → EmbP ls t
  | [], _, _, h => h.elim
  | l :: ls, p, t, h => by
    rcases (eP_cons ..).mp h with ⟨_, h⟩ | h
    · exact eP_drop h
    · exact eP_drop (eP_tail h)
theorem eP_key : ∀ {ls : List LotT} {p : LotT} {t : List LotT}, EmbP ls (p :: t) → ∃ l ∈ ls, p ∈ PN l
  | [], _, _, h => h.elim
  | l :: ls, p, t, h => by
    rcases (eP_cons ..).mp h with ⟨hp, _⟩ | h
    · exact ⟨l, .head _, hp⟩
    · obtain ⟨k, hk, e⟩ := eP_key h
      exact ⟨k, .tail _ hk, e⟩
theorem eP_snoc : ∀ (ls : List LotT) (l : LotT) (t : List LotT), EmbP (ls ++ [l]) t ↔ EmbP ls t ∨ ∃ t' p, t = t' ++ [p] ∧ p ∈ PN l ∧ EmbP ls t'
  | ls, l, [] => ⟨fun _ => .inl (eP_nil _), fun _ => eP_nil _⟩
  | [], l, p :: t => by
    show EmbP (l :: []) (p :: t) ↔ _
    rw [eP_cons]
    constructor
    · rintro (⟨hp, h⟩ | h)
      · cases t with
        | nil => exact .inr ⟨[], p, rfl, hp, trivial⟩
        | cons q t => exact h.elim
      · exact h.elim
    · rintro (h | ⟨t', q, e, hq, h⟩)
      · exact h.elim
      · cases t' with
        | nil => injection e with e1 e2; subst e1; subst e2; exact .inl ⟨hq, trivial⟩
        | cons r t' => exact h.elim
  | l0 :: ls, l, p :: t => by
    show EmbP (l0 :: (ls ++ [l])) (p :: t) ↔ _
    rw [eP_cons, eP_snoc ls l t, eP_snoc ls l (p :: t), eP_cons]
    constructor
    · rintro (⟨hp, h | ⟨t', q, rfl, hq, h⟩⟩ | h | ⟨t', q, e, hq, h⟩)
      · exact .inl (.inl ⟨hp, h⟩)
      · exact .inr ⟨p :: t', q, rfl, hq, (eP_cons ..).mpr (.inl ⟨hp, h⟩)⟩
      · exact .inl (.inr h)
      · exact .inr ⟨t', q, e, hq, eP_drop h⟩
    · rintro ((⟨hp, h⟩ | h) | ⟨t', q, e, hq, h⟩)
      · exact .inl ⟨hp, .inl h⟩
      · exact .inr (.inl h)
      · cases t' with
        | nil => exact .inr (.inr ⟨[], q, e, hq, eP_nil _⟩)
        | cons r t' =>
          injection e with e1 e2
          subst e1 e2
          rcases (eP_cons ..).mp h with ⟨hr, h⟩ | h
          · exact .inl ⟨hr, .inr ⟨t', q, rfl, hq, h⟩⟩
          · exact .inr (.inr ⟨p :: t', q, rfl, hq, h⟩)
/-! ### counted -/
def Cnt (Q : List LotT → Prop) (n : Nat) : Prop := ∃ L : List (List LotT), L.Nodup ∧ (∀ t, t ∈ L ↔ Q t) ∧ L.length = n
theorem cnt_one {Q : List LotT → Prop} {n m : Nat} (h : Cnt Q n) (g : Cnt Q m) : n = m := by
  obtain ⟨L, n1, m1, rfl⟩ := h
  obtain ⟨M, n2, m2, rfl⟩ := g
  exact ((List.perm_ext_iff_of_nodup n1 n2).mpr fun t => (m1 t).trans (m2 t).symm).length_eq
theorem Cnt.congr {Q R : List LotT → Prop} {n : Nat} (h : Cnt Q n) (e : ∀ t, Q t ↔ R t) : Cnt R n := let ⟨L, a, b, c⟩ := h; ⟨L, a, fun t => (b t).trans (e t), c⟩
def putN (d : List (LotT × Nat)) (k : LotT) (c : Nat) : List (LotT × Nat) := if d.any (fun e => decide (e.1 = k)) = true then d.map fun e => if e.1 = k then (k, c) else e else d ++ [(k, c)]
theorem put_keys (d : List (LotT × Nat)) (k : LotT) (c : Nat) : (putN d k c).map (·.1) = if k ∈ d.map (·.1) then d.map (·.1) else d.map (·.1) ++ [k] := by
  have e : d.any (fun e => decide (e.1 = k)) = true ↔ k ∈ d.map (·.1) := by
    rw [List.any_eq_true, List.mem_map]
    exact exists_congr fun x => and_congr_right fun _ => decide_eq_true_iff
  unfold putN
  by_cases h : k ∈ d.map (·.1)
  · rw [if_pos (e.mpr h), if_pos h, List.map_map]
    refine List.map_congr_left fun x _ => ?_
    show (if x.1 = k then (k, c) else x).1 = x.1
    split
    · rename_i z; exact z.symm
    · rfl
  · rw [if_neg (fun z => h (e.mp z)), if_neg h, List.map_append]; rfl
theorem put_mem {d : List (LotT × Nat)} {k : LotT} {c : Nat} {x : LotT × Nat} : x ∈ putN d k c ↔ (x = (k, c)) ∨ (x.1 ≠ k ∧ x ∈ d) := by
  unfold putN
  split
  · rename_i h
    rw [List.mem_map]
    constructor
    · rintro ⟨y, hy, rfl⟩
      split
      · exact .inl rfl
      · rename_i z; exact .inr ⟨z, hy⟩
    · rintro (rfl | ⟨n, hx⟩)
      · obtain ⟨y, hy, e⟩ := List.any_eq_true.mp h
        exact ⟨y, hy, if_pos (of_decide_eq_true e)⟩
      · exact ⟨x, hx, if_neg n⟩
  · rename_i h
    rw [List.mem_append, List.mem_singleton]
    constructor
    · rintro (hx | rfl)
      · exact .inr ⟨fun e => h (List.any_eq_true.mpr ⟨x, hx, decide_eq_true e⟩), hx⟩
      · exact .inl rfl
    · rintro (rfl | ⟨_, hx⟩)
      · exact .inr rfl
      · exact .inl hx
theorem put_nd {d : List (LotT × Nat)} {k : LotT} {c : Nat} (h : (d.map (·.1)).Nodup) : ((putN d k c).map (·.1)).Nodup := by
  rw [put_keys]
  split
  · exact h
  · rename_i z
    exact List.nodup_append.mpr ⟨h, by simp, fun a ha b hb e => z (by rw [List.mem_singleton.mp hb] at e; rw [← e]; exact ha)⟩
def putsN (ps : List LotT) (c : Nat) (d : List (LotT × Nat)) : List (LotT × Nat) := ps.foldl (fun d p => putN d p c) d
theorem puts_nd (c : Nat) : ∀ (ps : List LotT) {d : List (LotT × Nat)}, (d.map (·.1)).Nodup → ((putsN ps c d).map (·.1)).Nodup
  | [], _, h => h
  | p :: ps, _, h => puts_nd c ps (put_nd h)
theorem puts_mem (c : Nat) : ∀ (ps : List LotT) {d : List (LotT × Nat)} {x : LotT × Nat}, x ∈ putsN ps c d ↔ (x.1 ∈ ps ∧ x.2 = c) ∨ (x.1 ∉ ps ∧ x ∈ d)
  | [], d, x => by show x ∈ d ↔ _; simp
  | p :: ps, d, x => by
    show x ∈ putsN ps c (putN d p c) ↔ _
    rw [puts_mem c ps, put_mem, List.mem_cons]
    obtain ⟨k, n⟩ := x
    by_cases h2 : k = p
    · subst h2
      by_cases h1 : k ∈ ps <;> simp [h1]
    · by_cases h1 : k ∈ ps <;> simp [h1, h2]
def runF : List LotT → List (LotT × Nat) × Nat
  | [] => ([], 1)
  | l :: ls => (putsN (PN l) (runF ls).2 (runF ls).1, 1 + ((putsN (PN l) (runF ls).2 (runF ls).1).map (·.2)).sum)
theorem cnt_entries (ls : List LotT) : ∀ d : List (LotT × Nat), (d.map (·.1)).Nodup → (∀ x ∈ d, Cnt (fun t => EmbP ls (x.1 :: t)) x.2) → Cnt (fun t => ∃ p ∈ d.map (·.1), ∃ t', t = p :: t' ∧ EmbP ls (p :: t')) (d.map (·.2)).sum
  | [], _, _ => ⟨[], List.nodup_nil, fun t => ⟨fun h => (by cases h), fun ⟨_, h, _⟩ => (by cases h)⟩, rfl⟩
  | x :: d, nd, h => by
    obtain ⟨n1, n2⟩ := List.nodup_cons.mp nd
    obtain ⟨L, l1, l2, l3⟩ := h x (.head _)
    obtain ⟨M, m1, m2, m3⟩ := cnt_entries ls d n2 fun y hy => h y (.tail _ hy)
    refine ⟨L.map (x.1 :: ·) ++ M, List.nodup_append.mpr ⟨List.Pairwise.map _ (fun a b (z : a ≠ b) e => z (by injection e)) l1, m1, ?_⟩, fun t => ?_, ?_⟩
    · intro a ha b hb e
      subst e
      obtain ⟨t, _, rfl⟩ := List.mem_map.mp ha
      obtain ⟨p, hp, t', e, _⟩ := (m2 _).mp hb
      injection e with e1 _
      rw [← e1] at hp
      exact n1 hp
    · rw [List.mem_append, List.mem_map, m2]
      constructor
      · rintro (⟨t', ht, rfl⟩ | ⟨p, hp, r⟩)
        · exact ⟨x.1, by simp, t', rfl, (l2 t').mp ht⟩
        · exact ⟨p, by rw [List.map_cons]; exact .tail _ hp, r⟩
      · rintro ⟨p, hp, t', rfl, e⟩
        rw [List.map_cons] at hp
        rcases List.mem_cons.mp hp with rfl | hp
        · exact .inl ⟨t', (l2 t').mpr e, rfl⟩
        · exact .inr ⟨p, hp, t', rfl, e⟩
    · rw [List.length_append, List.length_map, l3, m3, List.map_cons, List.sum_cons]
structure RunOk (ls : List LotT) : Prop where
  nd : ((runF ls).1.map (·.1)).Nodup
  key : ∀ p, p ∈ (runF ls).1.map (·.1) ↔ ∃ l ∈ ls, p ∈ PN l
  val : ∀ x ∈ (runF ls).1, Cnt (fun t => EmbP ls (x.1 :: t)) x.2
  all : Cnt (EmbP ls) (runF ls).2
theorem run_ok : ∀ ls : List LotT, RunOk ls
  | [] => ⟨List.nodup_nil, fun p => ⟨fun h => (by cases h), fun ⟨_, h, _⟩ => (by cases h)⟩, fun _ h => (by cases h), ⟨[[]], by simp, fun t => by
      cases t with
      | nil => exact ⟨fun _ => trivial, fun _ => .head _⟩
      | cons p t => exact ⟨fun h => by simp at h, fun h => h.elim⟩, rfl⟩⟩
  | l :: ls => by
    have r := run_ok ls
    have nd := puts_nd (runF ls).2 (PN l) r.nd
    have key : ∀ p, p ∈ (runF (l :: ls)).1.map (·.1) ↔ ∃ k ∈ l :: ls, p ∈ PN k := fun p => by
      show p ∈ (putsN (PN l) (runF ls).2 (runF ls).1).map (·.1) ↔ _
      rw [List.mem_map]
      constructor
      · rintro ⟨x, hx, rfl⟩
        rcases (puts_mem ..).mp hx with ⟨h, _⟩ | ⟨_, h⟩
        · exact ⟨l, .head _, h⟩
        · obtain ⟨k, hk, e⟩ := (r.key x.1).mp (List.mem_map.mpr ⟨x, h, rfl⟩)
          exact ⟨k, .tail _ hk, e⟩
      · rintro ⟨k, hk, e⟩
        by_cases c : p ∈ PN l
        · exact ⟨(p, (runF ls).2), (puts_mem ..).mpr (.inl ⟨c, rfl⟩), rfl⟩
        · rcases List.mem_cons.mp hk with rfl | hk
          · exact absurd e c
          · obtain ⟨x, hx, ex⟩ := List.mem_map.mp ((r.key p).mpr ⟨k, hk, e⟩)
            exact ⟨x, (puts_mem ..).mpr (.inr ⟨by rw [ex]; exact c, hx⟩), ex⟩
    have val : ∀ x ∈ (runF (l :: ls)).1, Cnt (fun t => EmbP (l :: ls) (x.1 :: t)) x.2 := fun x hx => by
      rcases (puts_mem ..).mp hx with ⟨h, e⟩ | ⟨h, hx⟩
      · rw [e]
        refine r.all.congr fun t => ⟨fun z => (eP_cons ..).mpr (.inl ⟨h, z⟩), fun z => ?_⟩
        rcases (eP_cons ..).mp z with ⟨_, z⟩ | z
        · exact z
        · exact eP_tail z
      · exact (r.val x hx).congr fun t => ⟨fun z => eP_drop z, fun z => ((eP_cons ..).mp z).elim (fun y => absurd y.1 h) id⟩
    refine ⟨nd, key, val, ?_⟩
    obtain ⟨L, l1, l2, l3⟩ := cnt_entries (l :: ls) _ nd val
    refine ⟨[] :: L, List.nodup_cons.mpr ⟨fun h => ?_, l1⟩, fun t => ?_, ?_⟩
    · obtain ⟨_, _, _, e, _⟩ := (l2 _).mp h
      cases e
    · rw [List.mem_cons, l2]
      constructor
      · rintro (rfl | ⟨p, _, t', rfl, e⟩)
        · exact eP_nil _
        · exact e
      · intro e
        cases t with
        | nil => exact .inl rfl
        | cons p t => exact .inr ⟨p, (key p).mpr (eP_key e), t, rfl, e⟩
    · rw [List.length_cons, l3]
      show _ = 1 + _
      omega
/-! ### as the law counts -/
def addN (acc : List (List LotT)) (k : List LotT) : List (List LotT) := if k ∈ acc then acc else acc ++ [k]
def moreT (t : List LotT) (p : LotT) : List LotT := t ++ (if p = [] then [] else [p])
def stepS (found : List (List LotT)) (l : LotT) : List (List LotT) := (found.flatMap fun t => (partsA l).map (moreT t)).foldl addN []
def silF (ls : List LotT) : List (List LotT) := ls.foldl stepS [[]]
theorem adds_nd : ∀ (ks acc : List (List LotT)), acc.Nodup → (ks.foldl addN acc).Nodup ∧ (∀ t, t ∈ ks.foldl addN acc ↔ t ∈ acc ∨ t ∈ ks) ∧ (ks.foldl addN acc).length ≤ acc.length + ks.length
  | [], acc, h => ⟨h, fun t => by simp, Nat.le_refl _⟩
  | k :: ks, acc, h => by
    have h2 : (addN acc k).Nodup ∧ (∀ t, t ∈ addN acc k ↔ t ∈ acc ∨ t = k) ∧ (addN acc k).length ≤ acc.length + 1 := by
      unfold addN
      split
      · rename_i c
        exact ⟨h, fun t => ⟨.inl, fun z => z.elim id fun e => e ▸ c⟩, Nat.le_succ _⟩
      · rename_i c
        exact ⟨List.nodup_append.mpr ⟨h, by simp, fun a ha b hb e => c (by rw [List.mem_singleton.mp hb] at e; rw [← e]; exact ha)⟩, fun t => by rw [List.mem_append, List.mem_singleton], by rw [List.length_append]; exact Nat.le_refl _⟩
    obtain ⟨a, b, c⟩ := adds_nd ks (addN acc k) h2.1
    refine ⟨a, fun t => ?_, ?_⟩
    · show t ∈ ks.foldl addN (addN acc k) ↔ _
      rw [b, h2.2.1, List.mem_cons, or_assoc]
    · show (ks.foldl addN (addN acc k)).length ≤ _
      have := h2.2.2
      rw [List.length_cons]; omega
theorem sil_snoc (ls : List LotT) (l : LotT) : silF (ls ++ [l]) = stepS (silF ls) l := by unfold silF; rw [List.foldl_append]; rfl
theorem sil_go : ∀ r : List LotT, (silF r.reverse).Nodup ∧ ∀ t, t ∈ silF r.reverse ↔ EmbP r.reverse t
  | [] => ⟨by show [[]].Nodup; simp, fun t => by
      show t ∈ [[]] ↔ EmbP [] t
      cases t with
      | nil => exact ⟨fun _ => trivial, fun _ => .head _⟩
      | cons p t => exact ⟨fun h => by simp at h, fun h => h.elim⟩⟩
  | l :: r => by
    obtain ⟨ih1, ih2⟩ := sil_go r
    rw [List.reverse_cons, sil_snoc]
    obtain ⟨a, b, _⟩ := adds_nd ((silF r.reverse).flatMap fun t => (partsA l).map (moreT t)) [] List.nodup_nil
    refine ⟨a, fun t => ?_⟩
    rw [eP_snoc]
    refine (b t).trans ?_
    simp only [List.not_mem_nil, false_or, List.mem_flatMap, List.mem_map]
    obtain ⟨e, ne, _⟩ := parts_eq l
    constructor
    · rintro ⟨t', ht, p, hp, rfl⟩
      have ht := (ih2 t').mp ht
      unfold moreT
      by_cases c : p = []
      · rw [if_pos c, List.append_nil]; exact .inl ht
      · rw [if_neg c]
        rw [e] at hp
        exact .inr ⟨t', p, rfl, (List.mem_cons.mp hp).elim (fun z => absurd z c) id, ht⟩
    · rintro (h | ⟨t', p, rfl, hp, h⟩)
      · exact ⟨t, (ih2 t).mpr h, [], by rw [e]; exact .head _, by unfold moreT; rw [if_pos rfl, List.append_nil]⟩
      · exact ⟨t', (ih2 t').mpr h, p, by rw [e]; exact .tail _ hp, by unfold moreT; rw [if_neg (ne p hp)]⟩
theorem sil_run (ls : List LotT) : (silF ls).length = (runF ls).2 := by
  obtain ⟨a, b⟩ := sil_go ls.reverse
  rw [List.reverse_reverse] at a b
  exact cnt_one ⟨_, a, b, rfl⟩ (run_ok ls).all
theorem step_len (found : List (List LotT)) (l : LotT) : (stepS found l).length ≤ found.length * 2 ^ l.length := by
  have c := (adds_nd (found.flatMap fun t => (partsA l).map (moreT t)) [] List.nodup_nil).2.2
  refine Nat.le_trans c ?_
  rw [List.length_nil, Nat.zero_add]
  clear c
  induction found with
  | nil => simp
  | cons t f ih =>
    rw [List.flatMap_cons, List.length_append, List.length_map, (parts_eq l).2.2, List.length_cons, Nat.succ_mul, Nat.add_comm]
    exact Nat.add_le_add_right ih _
theorem sil_len : ∀ (ls : List LotT) (found : List (List LotT)) (k : Nat), found.length ≤ 2 ^ k → (ls.foldl stepS found).length ≤ 2 ^ (k + (ls.map (·.length)).sum)
  | [], _, k, h => by simpa using h
  | l :: ls, found, k, h => by
    have := sil_len ls (stepS found l) (k + l.length) (Nat.le_trans (step_len found l) (by rw [Nat.pow_add]; exact Nat.mul_le_mul_right _ h))
    rw [List.map_cons, List.sum_cons, ← Nat.add_assoc]
    exact this
end K6


namespace Kw
open PySem PySem.Spec PyProof.Rows L2 Hb Ow
/-- repr of a bool -/
theorem call_repr_bl {X : Cx} : CallR X (.builtin "repr") (fun xs H Q => ∃ b : Bool, xs = [.bl b] ∧ Q (.str (if b then "True" else "False")) H) := by
  intro pins s σ H xs us Q I r h
  obtain ⟨b, rfl, q⟩ := h
  obtain ⟨u, rfl, rx⟩ := vals1 r
  obtain rfl : u = Value.bool b := rx
  exact PySem.P.repr_of_bool ⟨.str _, H, I.tok _, ⟨_, rfl⟩, q⟩
theorem vals_app {a b : List V} {x y : List Value} (h : Vals a x) (k : Vals b y) : Vals (a ++ b) (x ++ y) := by
  induction h with
  | nil => exact k
  | cons r _ ih => exact .cons r ih
theorem vals_rev {a : List V} {x : List Value} (h : Vals a x) : Vals a.reverse x.reverse := by
  induction h with
  | nil => exact .nil
  | cons r _ ih => rw [List.reverse_cons, List.reverse_cons]; exact vals_app ih (.cons r .nil)
/-- a def without defaults, all parameters by name, from the last one to the first -/
theorem kb_rev {K : PySem.W.Frag} {x qual : Str} {st : Stmt} {f : Addr} {fd : FuncData} {ps ks : List Str} (F : Fun K x qual st f fd)
    (h : ∀ (kV doc pm : Value) (an : Option Addr) (cdv ct : Value) (ws : List Value), ws.length = ks.length → bindArgs (PySem.W.fnOf x qual (defArgs st) (defBody st) (defScope st) .none kV doc pm an cdv ct) ⟨[], ks.zip ws⟩ = pure (ps.zip ws.reverse)) : KBn K fd ps 0 ks (fun _ ws => ws.reverse) (fun _ zs => zs.reverse) := by
  obtain ⟨oc, od, kV, doc, pm, an, cdv, ct, osl, rfl, lk, hcd⟩ := F.ex
  refine ⟨fun s us ws X l1 l2 => ?_, fun r1 r2 => vals_rev r2⟩
  obtain rfl := List.eq_nil_of_length_eq_zero l1
  exact .of_eq (h kV doc pm an cdv ct ws l2)
end Kw

namespace K6
open PySem PySem.Spec PyProof.Rows L2 Hb St Sq Ow En Zp RZ Rd Xb Da Lg
def TupK (H H' : Hp) : Prop := ∀ b xs, H b = some (.tup xs) → H' b = some (.tup xs)
theorem TupK.same {H H' : Hp} (s : Same H H') : TupK H H' := fun b xs e => s _ _ e
theorem TupK.trans {H H1 H2 : Hp} (a : TupK H H1) (b : TupK H1 H2) : TupK H H2 := fun c xs e => b c xs (a c xs e)
theorem TupK.fix {H H' : Hp} (f : Fix H H') : TupK H H' := fun b xs e => f b _ e (not_mut_tup _)
theorem tupK_upd {H : Hp} {a : Addr} {o : HO} (h : ∀ xs, H a ≠ some (.tup xs)) : TupK H (upd H a o) := fun b xs e => by
  rw [upd_ne fun z => h xs (by rw [← z]; exact e)]; exact e
theorem str_at {ns : List Str} {i : Nat} {y : V} (ey : (ns.map V.str)[i]? = some y) : ∃ x, ns[i]? = some x ∧ y = .str x := by
  rw [List.getElem?_map] at ey
  cases c : ns[i]? with
  | none => rw [c] at ey; cases ey
  | some x => rw [c] at ey; exact ⟨x, rfl, (Option.some.inj ey).symm⟩
def tTruK (K : PySem.W.Frag) (ta : TE) : TT := fun σ H Q => ta σ H fun x H' => ∃ k, TruV K x H' k ∧ Q k H'
theorem pt_truthK {X : Cx} {a : Expr} {ta : TE} (K : PySem.W.Frag) (hK : X.K = K) (h : PE X a ta) (he : ∀ whole, PySem.isTrue a X.env whole = (do let v ← whole; standAt a.pos; holding [v] (truthy v))) : PT X a (tTruK K ta) := by
  subst hK
  exact pt_truth h he
theorem SqTk {K : PySem.W.Frag} {H H' : Hp} {a : Addr} {xs : List V} (h : SqT K H a xs) (s : Same H H') : SqT K H' a xs := tupFix (Fix.of s) h
section
variable {K : PySem.W.Frag} {H : Hp} {Q : VK}
theorem rd_slTK {a : Addr} {xs : List V} {lo hi : Option Int} (h : H a = some (.tup xs)) (q : ∀ p H', Same H H' → H' p = some (.tup (cutV xs lo hi)) → Q (.ref p) H') : rSlA K (.ref a) lo hi H Q := by
  refine ⟨a, xs, rfl, SqT.of h, fun ⟨e1, e2⟩ => ?_, fun _ p hp => q p _ (same_new hp _) upd_same⟩
  have e : cutV xs lo hi = xs := by
    unfold cutV
    rw [e1, e2, List.drop_zero, Nat.sub_zero, List.take_of_length_le (Nat.le_refl _)]
  exact q a H (Same.refl _) (by rw [e]; exact h)
theorem rd_catTK {a b : Addr} {xs ys : List V} (ha : H a = some (.tup xs)) (hb : H b = some (.tup ys)) (l : xs.length + ys.length ≤ 5000) (q : ∀ p H', Same H H' → H' p = some (.tup (xs ++ ys)) → Q (.ref p) H') : rCatA K (.ref a) (.ref b) H Q := by
  refine ⟨a, b, xs, ys, rfl, rfl, SqT.of ha, SqT.of hb, by rw [sizeLine_eq]; omega, fun e => ?_, fun _ e => ?_, fun _ _ p hp => q p _ (same_new hp _) upd_same⟩
  · exact q b H (Same.refl _) (by rw [e, List.nil_append]; exact hb)
  · exact q a H (Same.refl _) (by rw [e, List.append_nil]; exact ha)
end
/-! ### integers, numbers, by their data -/
def intD : PyData → Bool
  | .int _ => true
  | _ => false
def numD : PyData → Bool
  | .int i => decide (0 ≤ i)
  | _ => false
def bolD : PyData → Bool
  | .bool _ => true
  | _ => false
theorem kit_int {K : PySem.W.Frag} {H : Hp} {v : V} {d : PyData} (h : Dp K H v d) : PySem.W.kitOne K (tyD d) (.type "int") = some (intD d || bolD d) := by
  cases h with
  | non => exact kit_ty (a := "NoneType") (b := "int") (r := false) (by decide +kernel)
  | bl b => exact kit_ty (a := "bool") (b := "int") (r := true) (by decide +kernel)
  | int i => exact kit_ty (a := "int") (b := "int") (r := true) (by decide +kernel)
  | str x => exact kit_ty (a := "str") (b := "int") (r := false) (by decide +kernel)
  | lst _ _ => exact kit_ty (a := "list") (b := "int") (r := false) (by decide +kernel)
  | tup _ _ => exact kit_ty (a := "tuple") (b := "int") (r := false) (by decide +kernel)
theorem kit_bool {K : PySem.W.Frag} {H : Hp} {v : V} {d : PyData} (h : Dp K H v d) : PySem.W.kitOne K (tyD d) (.type "bool") = some (bolD d) := by
  cases h with
  | non => exact kit_ty (a := "NoneType") (b := "bool") (r := false) (by decide +kernel)
  | bl b => exact kit_ty (a := "bool") (b := "bool") (r := true) (by decide +kernel)
  | int i => exact kit_ty (a := "int") (b := "bool") (r := false) (by decide +kernel)
  | str x => exact kit_ty (a := "str") (b := "bool") (r := false) (by decide +kernel)
  | lst _ _ => exact kit_ty (a := "list") (b := "bool") (r := false) (by decide +kernel)
  | tup _ _ => exact kit_ty (a := "tuple") (b := "bool") (r := false) (by decide +kernel)

section
variable {P : Program} {w : World} {K : PySem.W.Frag} {mg : Str → Option Value} {base : Heap}
abbrev s_is_integer : Stmt := top 6
theorem sc_is_integer : FnScope ["value"] ["value"] (defScope s_is_integer) := ⟨rfl, rfl, rfl, by decide +kernel, rfl, by decide +kernel, by decide +kernel⟩
def spIsInt (K : PySem.W.Frag) : Sp := fun vs H Q _ => ∃ (v : V) (d : PyData), vs = [v] ∧ Dp K H v d ∧ Q (.bl (intD d)) H
theorem ok_isint {f : Addr} {fd : FuncData} (F : Fun K "is_integer" "is_integer" s_is_integer f fd) (n_bool : mg "bool" = none) (n_int : mg "int" = none) (n_isinstance : mg "isinstance" = none) : FnOk P w K mg base CX0 1 f fd ["value"] (spIsInt K) := by
  refine F.ok sc_is_integer (fun vs H Q E h => ?_) (fun cdv A outer s H vs Q E hr h => ?_)
  · obtain ⟨_, _, rfl, _⟩ := h
    rfl
  · obtain ⟨v, d, rfl, hv, q⟩ := h
    refine ⟨_, (pss_one (ps_ret (pe_and (pe_callB call_isi (by rfl) n_isinstance (by decide +kernel) (pa_cons (pv 0) (pa_cons (pe_bltn (v := .ty "int") (by rfl) n_int (by decide +kernel) rfl) pa_nil))) (pe_one (pe_not (pe_callB call_isi (by rfl) n_isinstance (by decide +kernel) (pa_cons (pv 0) (pa_cons (pe_bltn (v := .ty "bool") (by rfl) n_bool (by decide +kernel) rfl) pa_nil)))))))), ?_⟩
    have ty := ty_dp hv
    have ki := kit_int hv
    have kb := kit_bool hv
    have e : intD d = ((intD d || bolD d) && !bolD d) := by cases d <;> rfl
    rw [e] at q
    refine ⟨_, rfl, _, .ty "int", _, _, _, rfl, .ty "int", ty, ki, _, rfl, ?_⟩
    cases c : (intD d || bolD d) with
    | false => rw [c] at q; exact iteF q
    | true =>
      rw [c] at q
      exact iteT ⟨_, rfl, _, .ty "bool", _, _, _, rfl, .ty "bool", ty, kb, _, rfl, q⟩

/-! ### is_count -/
def cntD : PyData → Bool
  | .int i => decide (1 ≤ i)
  | _ => false
abbrev s_is_count : Stmt := top 7
theorem sc_is_count : FnScope ["value"] ["value"] (defScope s_is_count) := ⟨rfl, rfl, rfl, by decide +kernel, rfl, by decide +kernel, by decide +kernel⟩
def spCntD (K : PySem.W.Frag) : Sp := fun vs H Q _ => ∃ (v : V) (d : PyData), vs = [v] ∧ Dp K H v d ∧ Q (.bl (cntD d)) H
theorem ok_cnt {f : Addr} {fd : FuncData} (F : Fun K "is_count" "is_count" s_is_count f fd) (C_is_integer : Cl P w K mg base "is_integer" ["value"] [] 1 (spIsInt K)) : FnOk P w K mg base CX0 2 f fd ["value"] (spCntD K) := by
  refine F.ok sc_is_count (fun vs H Q E h => ?_) (fun cdv A outer s H vs Q E hr h => ?_)
  · obtain ⟨_, _, rfl, _⟩ := h
    rfl
  · obtain ⟨v, d, rfl, hv, q⟩ := h
    refine ⟨_, (pss_one (ps_ret (pe_and (pe_use C_is_integer (hr.mono (by decide)) rfl (pa_cons (pv 0) pa_nil)) (pe_one (pe_cmpR op_ge (pv 0) pe_int (nomark _)))))), ?_⟩
    refine ⟨_, rfl, v, d, rfl, hv, _, rfl, ?_⟩
    cases hv with
    | int i => exact iteT ⟨_, rfl, _, _, rfl, rfl, q⟩
    | _ => exact iteF q
/-! ### silenced_tale -/
abbrev s_silenced_tale : Stmt := top 27
theorem sc_silenced_tale : FnScope ["lots", "name", "number", "rest", "one"] ["lots", "name", "number"] (defScope s_silenced_tale) := ⟨rfl, rfl, rfl, by decide +kernel, rfl, by decide +kernel, by decide +kernel⟩
def spSil (K : PySem.W.Frag) : Sp := fun vs H Q _ => ∃ (a : Addr) (x : Str) (n : Nat) (ls : List LotT), vs = [.ref a, .str x, .int (n : Nat)] ∧ LT K H a ls ∧ n < ls.length ∧ ls.length ≤ 1000 ∧ (∀ l ∈ ls, l.length ≤ 1000) ∧
  ∀ p its H', Same H H' → H' p = some (.tup its) → All2 (TupS K H') its (silN ls x n) → Q (.ref p) H'
theorem ok_sil {f : Addr} {fd : FuncData} (F : Fun K "silenced_tale" "silenced_tale" s_silenced_tale f fd) (n_tuple : mg "tuple" = none) : FnOk P w K mg base CX0 1 f fd ["lots", "name", "number"] (spSil K) := by
  refine F.ok sc_silenced_tale (fun vs H Q E h => ?_) (fun cdv A outer s H vs Q E hr h => ?_)
  · obtain ⟨_, _, _, _, rfl, _⟩ := h
    rfl
  · obtain ⟨a, x, n, ls, rfl, ha, hn, ll, lm, q⟩ := h
    refine ⟨_, (pss_cons (ps_set (i := 3) sc_silenced_tale.nd rfl (Or.inl rfl) (pe_callTy call_tuple_of (by rfl) n_tuple (by decide +kernel) (pa_cons (pe_lc (own := [("one", 4)]) (g := gName 4) rfl sc_silenced_tale.nd (pi_seq (pe_ix ix_tup (pv 0) (pv 2) (fun _ _ => rfl))) (blkOk_by (N := ["lots", "name", "number", "rest", "one"]) (sc := defScope s_silenced_tale) (by decide +kernel)) (fun _ _ _ _ _ => pg_name (i := 4) sc_silenced_tale.nd rfl (Or.inl rfl)) (fun _ _ _ _ _ => pts_one (pt_cmpR op_ne (pv 4) (pv 1) (nomark _))) (fun _ _ _ _ _ => pv 4)) pa_nil)))
    (pss_one (ps_ret (pe_op op_catA (pe_op op_catA (pe_slice (r := rSlA K) sl_tupA (pv 0) po_none (po_some (pv 2))) (pe_ifExp (pt_truthK K rfl (pv 3) (fun _ => rfl)) (pe_tup (pa_cons (pv 3) pa_nil)) (pe_tup pa_nil))) (pe_slice (r := rSlA K) sl_tupA (pv 0) (po_some (pe_op op_add (pv 2) pe_int)) po_none))))), ?_⟩
    obtain ⟨its, ea, al⟩ := id ha
    have ln := al.len
    obtain ⟨y, ey⟩ : ∃ y, its[n]? = some y := ⟨_, List.getElem?_eq_getElem (by omega)⟩
    obtain ⟨l, el, b, rfl, eb⟩ := al.get ey
    have lb := lm l (at_mem el)
    have eD : ls.getD n [] = l := by rw [List.getD_eq_getElem?_getD, el]; rfl
    refine ⟨_, rfl, _, rfl, a, its, _, .ref b, rfl, rfl, SqT.of ea, atI_nat ey, b, _, rfl, .inr eb, fun J S W z0 D hD => ?_⟩
    refine lc_mf (ds := l) W (fun y => !decide (y = x)) (fun _ v y => v = .str y) z0 hD (by rw [List.length_map]) (fun i v y H' ev ey' s m => ?_) (fun H1 ys s1 e1 al1 => ?_)
    · obtain ⟨y', ey2, rfl⟩ := str_at ev
      obtain rfl : y' = y := Option.some.inj (ey2.symm.trans ey')
      refine ⟨rfl, _, rfl, _, rfl, rfl, _, rfl, ?_⟩
      have e : (!decide (V.str y' = V.str x)) = !decide (y' = x) := by rw [decide_eq_decide.mpr (show V.str y' = V.str x ↔ y' = x from ⟨fun z => by injection z, fun z => by rw [z]⟩)]
      rw [e]
      cases c : !decide (y' = x) with
      | true => exact iteT ⟨_, rfl, mf_yes m hD (fun _ _ _ _ _ h => h) ey' (by omega) (Same.refl _) c rfl⟩
      | false => exact iteF (mf_no m (fun _ _ _ _ _ h => h) ey' (Same.refl _) c)
    · have ez := al1.map_eq (f := fun y => V.str y) fun _ _ h => h
      have er : (l.filter fun y => !decide (y = x)) = restN ls x n := by unfold restN; rw [eD]
      rw [er] at ez
      rw [ez] at e1
      refine ⟨D, _, rfl, .inl ⟨SqL.of e1, fun r hr => ?_⟩⟩
      have s2 := same_new hr (.tup ((restN ls x n).map V.str))
      have e2 : upd H1 r (.tup ((restN ls x n).map V.str)) r = some (.tup ((restN ls x n).map V.str)) := upd_same
      generalize upd H1 r (.tup ((restN ls x n).map V.str)) = H2 at s2 e2 ⊢
      have s12 := s1.trans s2
      refine ⟨_, rfl, _, rfl, _, rfl, rd_slTK (s12 _ _ ea) fun p1 H3 s3 e3 => ?_⟩
      have c1 : cutV its none (some ((n : Nat) : Int)) = its.take n := cut_take
      rw [c1] at e3
      have s13 := s12.trans s3
      have al3 := al.imp fun _ _ r => r.fix (Fix.of s13)
      refine ⟨_, rfl, !(restN ls x n).isEmpty, .inr (.inl ⟨_, SqT.of (s3 _ _ e2), by rw [List.isEmpty_map]⟩), ?_⟩
      by_cases c : restN ls x n = []
      · rw [show (!(restN ls x n).isEmpty) = false by rw [c]; rfl]
        refine iteF ⟨by show 0 ≤ sizeLine; decide, fun p2 kp2 => ?_⟩
        have s4 := same_new kp2 (.tup [])
        have e4 : upd H3 p2 (.tup []) p2 = some (.tup []) := upd_same
        generalize upd H3 p2 (.tup []) = H4 at s4 e4 ⊢
        have s14 := s13.trans s4
        refine rd_catTK (s4 _ _ e3) e4 (by rw [List.length_take]; show _ + 0 ≤ _; omega) fun p3 H5 s5 e5 => ?_
        have s15 := s14.trans s5
        refine ⟨_, rfl, _, rfl, _, _, rfl, rfl, _, rfl, ?_⟩
        dsimp only [tNoPart]
        refine rd_slTK (s15 _ _ ea) fun p4 H6 s6 e6 => ?_
        have c2 : cutV its (some (((n : Nat) : Int) + 1)) none = its.drop (n + 1) := cut_from (n := n + 1)
        rw [c2] at e6
        refine rd_catTK (s6 _ _ e5) e6 (by rw [List.length_append, List.length_take, List.length_drop]; show _ + 0 + _ ≤ _; omega) fun p5 H7 s7 e7 => ?_
        have s17 := (s15.trans s6).trans s7
        refine q p5 _ H7 s17 e7 ?_
        have al7 := al.imp fun _ _ r => r.fix (Fix.of s17)
        unfold silN
        exact ((all2_take al7 n).app (by rw [if_pos c]; exact .nil)).app (all2_drop al7 (n + 1))
      · rw [show (!(restN ls x n).isEmpty) = true by cases h : restN ls x n with | nil => exact absurd h c | cons _ _ => rfl]
        refine iteT ⟨_, rfl, by show 1 ≤ sizeLine; decide, fun p2 kp2 => ?_⟩
        have s4 := same_new kp2 (.tup [V.ref r])
        have e4 : upd H3 p2 (.tup [V.ref r]) p2 = some (.tup [V.ref r]) := upd_same
        generalize upd H3 p2 (.tup [V.ref r]) = H4 at s4 e4 ⊢
        have s14 := s13.trans s4
        refine rd_catTK (s4 _ _ e3) e4 (by rw [List.length_take]; show _ + 1 ≤ _; omega) fun p3 H5 s5 e5 => ?_
        have s15 := s14.trans s5
        refine ⟨_, rfl, _, rfl, _, _, rfl, rfl, _, rfl, ?_⟩
        dsimp only [tNoPart]
        refine rd_slTK (s15 _ _ ea) fun p4 H6 s6 e6 => ?_
        have c2 : cutV its (some (((n : Nat) : Int) + 1)) none = its.drop (n + 1) := cut_from (n := n + 1)
        rw [c2] at e6
        refine rd_catTK (s6 _ _ e5) e6 (by rw [List.length_append, List.length_take, List.length_drop]; show _ + 1 + _ ≤ _; omega) fun p5 H7 s7 e7 => ?_
        have s17 := (s15.trans s6).trans s7
        refine q p5 _ H7 s17 e7 ?_
        have al7 := al.imp fun _ _ r => r.fix (Fix.of s17)
        unfold silN
        exact ((all2_take al7 n).app (by rw [if_neg c]; exact .cons ⟨r, rfl, SqT.of ((((s3.trans s4).trans s5).trans s6).trans s7 _ _ e2)⟩ .nil)).app (all2_drop al7 (n + 1))
end
end K6

namespace K6
open PySem PySem.Spec PyProof.Rows L2 Hb St Sq Ow En Zp RZ Rd Xb Da Lg
theorem LotH.on {H H' : Hp} {v : V} {l : LotT} (h : LotH H v l) (k : TupK H H') : LotH H' v l := let ⟨b, e, t⟩ := h; ⟨b, e, k _ _ t⟩
theorem pa_starK {X : Cx} {K : PySem.W.Frag} {e : Expr} {es : List Expr} {p : Pos} {te : TE} {t : TA} (hK : X.K = K) (he : PE X e te) (hr : PA X es t) (hs : starEach (.Starred e p :: es) X.env = (true, eval e X.env) :: starEach es X.env := by rfl) : PA X (.Starred e p :: es) (StX.tStar K te t) := by
  subst hK
  exact StX.pa_star he hr hs
theorem all2_mapR {α β γ : Type} {R : α → γ → Prop} {f : β → γ} : ∀ {xs : List α} {ys : List β}, All2 (fun x y => R x (f y)) xs ys → All2 R xs (ys.map f)
  | _, _, .nil => .nil
  | _, _, .cons r t => .cons r (all2_mapR t)
theorem parts_len : ∀ (l : LotT) (ps : List LotT), (l.foldl (fun ps x => ps ++ ps.map fun p => p ++ [x]) ps).length = ps.length * 2 ^ l.length
  | [], ps => by simp
  | x :: l, ps => by
    show (l.foldl _ (ps ++ ps.map fun p => p ++ [x])).length = _
    rw [parts_len l, List.length_append, List.length_map, List.length_cons, Nat.pow_succ, Nat.mul_comm (2 ^ l.length) 2, ← Nat.mul_assoc]
    congr 1
    omega
theorem parts_in : ∀ (l : LotT) (ps : List LotT) (k : Nat), (∀ p ∈ ps, p.length ≤ k) → ∀ p ∈ l.foldl (fun ps x => ps ++ ps.map fun p => p ++ [x]) ps, p.length ≤ k + l.length
  | [], ps, k, h => h
  | x :: l, ps, k, h => fun p hp => by
    have := parts_in l (ps ++ ps.map fun p => p ++ [x]) (k + 1) (fun q hq => by
      rcases List.mem_append.mp hq with hq | hq
      · have := h q hq; omega
      · obtain ⟨r, hr, rfl⟩ := List.mem_map.mp hq
        have := h r hr
        rw [List.length_append]; show _ + 1 ≤ _; omega) p hp
    rw [List.length_cons]; omega
def partsJ (l : LotT) (j : Nat) : List LotT := (l.take j).foldl (fun ps x => ps ++ ps.map fun p => p ++ [x]) [[]]
theorem partsJ_succ {l : LotT} {j : Nat} {x : Str} (e : l[j]? = some x) : partsJ l (j + 1) = partsJ l j ++ (partsJ l j).map fun p => p ++ [x] := by
  unfold partsJ
  rw [List.take_add_one, e]
  show (l.take j ++ [x]).foldl _ _ = _
  rw [List.foldl_append]; rfl
theorem partsJ_all (l : LotT) : partsJ l l.length = partsA l := by unfold partsJ partsA; rw [List.take_length]
section
variable {P : Program} {w : World} {K : PySem.W.Frag} {mg : Str → Option Value} {base : Heap}
/-! ### parts_of -/
abbrev s_parts_of : Stmt := top 29
theorem sc_parts_of : FnScope ["lot", "parts", "name", "part"] ["lot"] (defScope s_parts_of) := ⟨rfl, rfl, rfl, by decide +kernel, rfl, by decide +kernel, by decide +kernel⟩
def spParts (K : PySem.W.Frag) : Sp := fun vs H Q _ => ∃ (a : Addr) (l : LotT), vs = [.ref a] ∧ SqT K H a (l.map V.str) ∧ l.length ≤ 8 ∧ ∀ p its H', Same H H' → H' p = some (.lst its) → All2 (LotH H') its (PN l) → Q (.ref p) H'
theorem ok_parts {f : Addr} {fd : FuncData} (F : Fun K "parts_of" "parts_of" s_parts_of f fd)  : FnOk P w K mg base CX0 1 f fd ["lot"] (spParts K) := by
  refine F.ok sc_parts_of (fun vs H Q E h => ?_) (fun cdv A outer s H vs Q E hr h => ?_)
  · obtain ⟨_, _, rfl, _⟩ := h
    rfl
  · obtain ⟨a, l, rfl, ha, l8, q⟩ := h
    refine ⟨_, (pss_cons (ps_set (i := 1) sc_parts_of.nd rfl (Or.inl rfl) (pe_lst (pa_cons (pe_tup pa_nil) pa_nil)))
    (Evl.pss_cut (ps_for PassesOwn.never rfl (pi_seq (pv 0)) (pg_name (i := 2) sc_parts_of.nd rfl (Or.inr rfl))
      (pss_one (ps_set (i := 1) sc_parts_of.nd rfl (Or.inl rfl) (pe_op op_cat (pv 1) (pe_lc (own := [("part", 3)]) (g := gName 3) rfl sc_parts_of.nd (pi_seq (pv 1)) (blkOk_by (N := ["lot", "parts", "name", "part"]) (sc := defScope s_parts_of) (by decide +kernel)) (fun _ _ _ _ _ => pg_name (i := 3) sc_parts_of.nd rfl (Or.inl rfl)) (fun _ _ _ _ _ => pts_nil) (fun _ _ _ _ _ => pe_tup (pa_starK (K := K) rfl (pv 3) (pa_cons (pv 2) pa_nil))))))))
    (pss_one (ps_ret (pe_slice (r := rSlL K) sl_list (pv 1) (po_some pe_int) po_none))))), ?_⟩
    refine ⟨by show 0 ≤ sizeLine; decide, fun t kt => ⟨by show 1 ≤ sizeLine; decide, fun lp kl => ?_⟩⟩
    have a0 := same_new kt (.tup [])
    have a1 := same_new kl (.lst [.ref t])
    have s1 : Same H (upd (upd H t (.tup [])) lp (.lst [.ref t])) := a0.trans a1
    have h1 : upd (upd H t (.tup [])) lp (.lst [.ref t]) lp = some (.lst [.ref t]) := upd_same
    have h2 : LotH (upd (upd H t (.tup [])) lp (.lst [.ref t])) (.ref t) [] := ⟨t, rfl, a1 _ _ upd_same⟩
    generalize upd (upd H t (.tup [])) lp (.lst [.ref t]) = H1 at h1 h2 s1 ⊢
    refine ⟨fun σ H' => ∃ p its o2 o3, σ = [some (.ref a), some (.ref p), o2, o3] ∧ Same H H' ∧ H' p = some (.lst its) ∧ All2 (LotH H') its (partsA l), ?_, ?_⟩
    · refine ⟨_, rfl, a, _, rfl, .inr (SqTk ha s1), fun J S W z0 => ?_⟩
      refine for_sq W (fun j σ H' => ∃ p its o2 o3, σ = [some (.ref a), some (.ref p), o2, o3] ∧ Same H1 H' ∧ H' p = some (.lst its) ∧ All2 (LotH H') its (partsJ l j)) ⟨lp, _, _, _, rfl, Same.refl _, h1, .cons h2 .nil⟩ (fun j σ H' pv => W.keep (fun o e => let ⟨_, _, _, _, _, s, _⟩ := pv; s _ _ e) z0) ?_ ?_
      · rintro j σ H2 y ey ⟨p, its, o2, o3, rfl, s2, ep, al⟩
        obtain ⟨x, ex, rfl⟩ := str_at ey
        have hj := (List.getElem?_eq_some_iff.mp ex).1
        have lj : (partsJ l j).length ≤ 256 := by
          unfold partsJ
          rw [parts_len, List.length_singleton, Nat.one_mul, List.length_take]
          exact Nat.pow_le_pow_right (n := 2) (i := min j l.length) (j := 8) (by decide) (by omega)
        have inj : ∀ p ∈ partsJ l j, p.length ≤ 8 := fun p hp => by
          have := parts_in (l.take j) [[]] 0 (fun q hq => by rw [List.mem_singleton.mp hq]; exact Nat.le_refl _) p hp
          rw [List.length_take] at this
          omega
        refine ⟨_, rfl, _, rfl, p, its, rfl, .inl (SqL.of ep), fun J2 S2 W2 z2 D hD => ?_⟩
        refine lc_mf (ds := partsJ l j) W2 (fun _ => true) (fun H v p => LotH H v (p ++ [x])) z2 hD al.len (fun i v p' H' ev ep' s m => ?_) (fun H3 ys s3 e3 al3 => ?_)
        · obtain ⟨p2, ep2, pb, rfl, epb⟩ := al.get ev
          obtain rfl : p2 = p' := Option.some.inj (ep2.symm.trans ep')
          have lp := inj _ (at_mem ep')
          refine ⟨rfl, _, rfl, pb, _, rfl, .inl (SqT.of (s _ _ epb)), _, rfl, by show (p2.map V.str ++ [V.str x]).length ≤ sizeLine; rw [List.length_append, List.length_map, sizeLine_eq]; show _ + 1 ≤ _; omega, fun t ht => ?_⟩
          exact mf_yes m hD (fun _ _ _ _ f h => h.on (.fix f)) ep' (by omega) (same_new ht _) rfl ⟨t, rfl, by rw [upd_same, List.map_append]; rfl⟩
        · rw [Rd.filter_all] at al3
          have la := al.len
          have l3 := al3.len
          refine ⟨p, D, its, ys, rfl, rfl, s3 _ _ ep, e3, by rw [la, l3, sizeLine_eq]; omega, fun c kc => ?_⟩
          have s4 := same_new kc (.lst (its ++ ys))
          refine ⟨c, _, _, _, rfl, (s2.trans s3).trans s4, upd_same, ?_⟩
          rw [partsJ_succ ex]
          exact (al.imp fun _ _ r => (r.on (.same s3)).on (.same s4)).app (all2_mapR (al3.imp fun _ _ r => LotH.on r (.same s4)))
      · rintro σ H2 ⟨p, its, o2, o3, rfl, s2, ep, al⟩
        rw [List.length_map, partsJ_all] at al
        exact ⟨p, its, _, _, rfl, s1.trans s2, ep, al⟩
    rintro σ H2 ⟨p, its, o2, o3, rfl, s2, ep, al⟩
    refine ⟨_, rfl, _, rfl, ?_⟩
    dsimp only [tNoPart]
    refine ⟨p, its, rfl, SqL.of ep, fun r hr => ?_⟩
    have s3 := same_new hr (.lst (cutV its (some 1) none))
    have c1 : cutV its (some ((1 : Nat) : Int)) none = its.drop 1 := cut_from
    refine q r (its.drop 1) _ (s2.trans s3) (by rw [upd_same]; exact congrArg some (congrArg HO.lst c1)) ?_
    exact (all2_drop al 1).imp fun _ _ r => r.on (.same s3)
/-! ### event_lot -/
abbrev s_event_lot : Stmt := top 12
theorem sc_event_lot : FnScope ["tale", "name", "i", "number", "lot"] ["tale", "name", "i"] (defScope s_event_lot) := ⟨rfl, rfl, rfl, by decide +kernel, rfl, by decide +kernel, by decide +kernel⟩
def optN : Option Nat → V
  | some k => .int (k : Nat)
  | none => .non
def spEvL (K : PySem.W.Frag) : Sp := fun vs H Q _ => ∃ (a : Addr) (x : Str) (i : Int) (ls : List LotT), vs = [.ref a, .str x, .int i] ∧ LT K H a ls ∧ ls.length ≤ 1000 ∧ ∀ H', Same H H' → Q (optN (evL ls x i 0)) H'
theorem ok_evl {f : Addr} {fd : FuncData} (F : Fun K "event_lot" "event_lot" s_event_lot f fd) (n_enumerate : mg "enumerate" = none) : FnOk P w K mg base CX0 1 f fd ["tale", "name", "i"] (spEvL K) := by
  refine F.ok sc_event_lot (fun vs H Q E h => ?_) (fun cdv A outer s H vs Q E hr h => ?_)
  · obtain ⟨_, _, _, _, rfl, _⟩ := h
    rfl
  · obtain ⟨a, x, i0, ls, rfl, ha, ll, q⟩ := h
    refine ⟨_, (Evl.pss_cut (ps_for PassesOwn.never rfl (pi_enumT (by rfl) n_enumerate (pa_cons (pv 0) pa_nil)) (pg_tup rfl (pgs_cons (pg_name (i := 3) sc_event_lot.nd rfl (Or.inl rfl)) (pgs_cons (pg_name (i := 4) sc_event_lot.nd rfl (Or.inl rfl)) pgs_nil)))
      (pss_one (ps_if (pt_cmpR op_in_seq (pv 1) (pv 4) rfl) (pss_cons (ps_aug (i := 2) sc_event_lot.nd rfl (Or.inl rfl) pe_int ip_sub)
    (pss_one (ps_if (pt_cmpR op_eq (pv 2) pe_int (nomark _)) (pss_one (ps_ret (pv 3))) pss_nil))) pss_nil)))
    (pss_one (ps_ret pe_non))), ?_⟩
    obtain ⟨its, ea, al⟩ := id ha
    have ln := al.len
    refine ⟨fun σ H' => (∃ o2 o3 o4, σ = [some (.ref a), some (.str x), o2, o3, o4]) ∧ Same H H' ∧ evL ls x i0 0 = none, ?_, fun σ H' hp => by
      obtain ⟨⟨o2, o3, o4, e⟩, s1, no⟩ := hp
      subst e
      have z := q H' s1
      rw [no] at z
      exact z⟩
    refine ⟨_, rfl, a, rfl, ⟨its, SqT.of ea⟩, ?_⟩
    refine for_en en_tup (fun j σ H' => (∃ (i : Int) (o3 o4 : Option V), σ = [some (.ref a), some (.str x), some (.int i), o3, o4] ∧ evL ls x i0 0 = evL (ls.drop j) x i j) ∧ Same H H') ⟨⟨i0, none, none, rfl, rfl⟩, Same.refl _⟩ (fun j σ H' pv => SqT.of (pv.2 _ _ ea)) ?_ ?_
    · rintro j σ H1 y t ey ⟨⟨i, o3, o4, rfl, ev⟩, s1⟩ ht
      obtain ⟨l, el, b, rfl, eb⟩ := al.get ey
      have hj := (List.getElem?_eq_some_iff.mp el).1
      have s2 := same_new ht (.tup [.int (j : Nat), .ref b])
      refine ⟨t, _, rfl, SqT.of upd_same, rfl, _, _, rfl, _, _, rfl, rfl, ?_⟩
      generalize upd H1 t (.tup [.int (j : Nat), .ref b]) = H2 at s2 ⊢
      have s12 := s1.trans s2
      have edr : ls.drop j = l :: ls.drop (j + 1) := by rw [List.drop_eq_getElem_cons hj, (List.getElem?_eq_some_iff.mp el).2]
      rw [edr] at ev
      have ev : evL ls x i0 0 = if x ∈ l then (if i - 1 = 0 then some j else evL (ls.drop (j + 1)) x (i - 1) (j + 1)) else evL (ls.drop (j + 1)) x i (j + 1) := ev
      refine ⟨_, rfl, _, rfl, b, _, rfl, .inr (SqTk eb s12), rfl, flat_strs l, _, rfl, ?_⟩
      rw [inV_strs]
      refine iteD (fun c => ?_) fun c => ?_
      · rw [if_pos c] at ev
        refine ⟨_, rfl, _, _, rfl, rfl, _, rfl, rfl, _, rfl, iteD (fun z => ?_) fun z => ?_⟩
        · have z : i - 1 = 0 := by injection z
          rw [if_pos z] at ev
          have := q H2 s12
          rw [ev] at this
          exact ⟨_, rfl, this⟩
        · rw [if_neg fun y => z (by show V.int (i - 1) = V.int 0; rw [y])] at ev
          exact ⟨⟨_, _, _, rfl, ev⟩, s12⟩
      · rw [if_neg c] at ev
        exact ⟨⟨_, _, _, rfl, ev⟩, s12⟩
    · rintro σ H1 ⟨⟨i, o3, o4, rfl, ev⟩, s1⟩
      rw [ln, List.drop_length] at ev
      exact ⟨⟨_, _, _, rfl⟩, s1, ev⟩
end
end K6

namespace K6
open PySem PySem.Spec PyProof.Rows L2 Hb St Sq Ow En Zp RZ Rd Xb Da Lg
section
variable {P : Program} {w : World} {K : PySem.W.Frag} {mg : Str → Option Value} {base : Heap}
/-! ### number_of_event -/
abbrev s_number_of_event : Stmt := top 31
theorem sc_number_of_event : FnScope ["lots", "value"] ["lots", "value"] (defScope s_number_of_event) := ⟨rfl, rfl, rfl, by decide +kernel, rfl, by decide +kernel, by decide +kernel⟩
def strOf : PyData → Option Str
  | .str x => some x
  | _ => none
def intOf : PyData → Option Int
  | .int x => some x
  | _ => none
def mkEv (a b : PyData) : Option (Str × Int) := (strOf a).bind fun x => (intOf b).bind fun i => if nmD a = true ∧ 1 ≤ i then some (x, i) else none
def pairD : List PyData → Option (Str × Int)
  | [a, b] => mkEv a b
  | _ => none
/-- what a value says: the name and the turn, where it is one -/
def evD : PyData → Option (Str × Int)
  | .tuple ds => pairD ds
  | _ => none
theorem evD_pair (x : Str) (i : Int) : evD (.tuple [.str x, .int i]) = if nmD (.str x) = true ∧ 1 ≤ i then some (x, i) else none := rfl
theorem evD_no {d0 d1 : PyData} (h : nmD d0 = false) : evD (.tuple [d0, d1]) = none := by
  show mkEv d0 d1 = none
  unfold mkEv
  cases strOf d0 with
  | none => rfl
  | some x =>
    cases intOf d1 with
    | none => rfl
    | some i =>
      show (if nmD d0 = true ∧ 1 ≤ i then some (x, i) else none) = none
      rw [if_neg fun z => by rw [h] at z; cases z.1]
theorem evD_no2 {d0 d1 : PyData} (h : intOf d1 = none) : evD (.tuple [d0, d1]) = none := by
  show mkEv d0 d1 = none
  unfold mkEv
  rw [h]
  cases strOf d0 <;> rfl
theorem evD_len {ds : List PyData} (h : ds.length ≠ 2) : evD (.tuple ds) = none := by
  match ds, h with
  | [], _ => rfl
  | [_], _ => rfl
  | [_, _], h => exact absurd rfl h
  | _ :: _ :: _ :: _, _ => rfl
def numF (ls : List LotT) (d : PyData) : Option Nat := match evD d with
  | some (x, i) => evL ls x i 0
  | none => none
def ShP : PyData → Prop
  | .tuple ds => ∀ d ∈ ds, ShortD d
  | _ => True
def spNum (K : PySem.W.Frag) : Sp := fun vs H Q _ => ∃ (a : Addr) (v : V) (ls : List LotT) (d : PyData), vs = [.ref a, v] ∧ LT K H a ls ∧ ls.length ≤ 1000 ∧ Dp K H v d ∧ ShP d ∧ ∀ H', Same H H' → Q (optN (numF ls d)) H'
theorem ok_num {f : Addr} {fd : FuncData} (F : Fun K "number_of_event" "number_of_event" s_number_of_event f fd) (C_event_lot : Cl P w K mg base "event_lot" ["tale", "name", "i"] [] 1 (spEvL K)) (C_is_count : Cl P w K mg base "is_count" ["value"] [] 2 (spCntD K)) (C_is_name : Cl P w K mg base "is_name" ["value"] [] 1 (spIsName K)) (n_isinstance : mg "isinstance" = none) (n_len : mg "len" = none) (n_tuple : mg "tuple" = none) : FnOk P w K mg base CX0 3 f fd ["lots", "value"] (spNum K) := by
  refine F.ok sc_number_of_event (fun vs H Q E h => ?_) (fun cdv A outer s H vs Q E hr h => ?_)
  · obtain ⟨_, _, _, _, rfl, _⟩ := h
    rfl
  · obtain ⟨a, v, ls, d, rfl, ha, ll, dv, sm, q⟩ := h
    refine ⟨_, (pss_cons (ps_if (PW.pt (pw_or (pt_not (pt_val (pe_callB call_isi (by rfl) n_isinstance (by decide +kernel) (pa_cons (pv 1) (pa_cons (pe_bltn (v := .ty "tuple") (by rfl) n_tuple (by decide +kernel) rfl) pa_nil))))) (pw_or (pt_cmpR op_ne (pe_callB call_len_seq (by rfl) n_len PySem.boot_len (pa_cons (pv 1) pa_nil)) pe_int (nomark _)) (pw_or (pt_not (pt_val (pe_use C_is_name (hr.mono (by decide)) rfl (pa_cons (pe_ix ix_tup (pv 1) pe_int (fun _ _ => rfl)) pa_nil)))) (pw_or1 (pt_not (pt_val (pe_use C_is_count (hr.mono (by decide)) rfl (pa_cons (pe_ix ix_tup (pv 1) pe_int (fun _ _ => rfl)) pa_nil))))))))) (pss_one (ps_ret pe_non)) pss_nil)
    (pss_one (ps_ret (pe_use C_event_lot (hr.mono (by decide)) rfl (pa_cons (pv 0) (pa_cons (pe_ix ix_tup (pv 1) pe_int (fun _ _ => rfl)) (pa_cons (pe_ix ix_tup (pv 1) pe_int (fun _ _ => rfl)) pa_nil))))))), ?_⟩
    have ty := ty_dp dv
    have kt := kit_tup dv
    have non : numF ls d = none → ∀ H', Same H H' → Q .non H' := fun e H' s => by have := q H' s; rw [e] at this; exact this
    cases dv with
    | @tup b xs ds ht ha2 =>
      have alp := dpa_all ha2
      have lx := alp.len
      refine ⟨_, rfl, _, .ty "tuple", _, _, _, rfl, .ty "tuple", ty, kt, _, rfl, iteF ?_⟩
      refine ⟨_, rfl, b, _, rfl, .inr ht, rfl, _, rfl, ?_⟩
      rw [lx]
      by_cases c : ds.length = 2
      · rw [decide_eq_true (show V.int (ds.length : Nat) = V.int 2 by rw [c]; rfl)]
        refine iteF ?_
        obtain ⟨d0, d1, rfl⟩ : ∃ d0 d1, ds = [d0, d1] := by
          match ds, c with
          | [d0, d1], _ => exact ⟨d0, d1, rfl⟩
        obtain ⟨x0, x1, rfl, h0, h1⟩ : ∃ x0 x1, xs = [x0, x1] ∧ Dp K H x0 d0 ∧ Dp K H x1 d1 := by
          cases alp with
          | cons h0 t => cases t with
            | cons h1 t => cases t; exact ⟨_, _, rfl, h0, h1⟩
        have sm : ∀ d ∈ [d0, d1], ShortD d := sm
        refine ⟨_, rfl, b, _, 0, x0, rfl, rfl, ht, rfl, x0, d0, rfl, h0, sm d0 (.head _), _, rfl, ?_⟩
        cases n0 : nmD d0 with
        | false =>
          refine iteT (non ?_ H (Same.refl _))
          unfold numF
          rw [evD_no n0]
        | true =>
          refine iteF ⟨_, rfl, b, _, 1, x1, rfl, rfl, ht, rfl, x1, d1, rfl, h1, _, rfl, ?_⟩
          cases h0 with
          | str x =>
            cases h1 with
            | int i =>
              by_cases ci : 1 ≤ i
              · rw [show cntD (.int i) = true from decide_eq_true ci]
                refine iteF ⟨_, rfl, _, rfl, b, _, 0, _, rfl, rfl, ht, rfl, _, rfl, b, _, 1, _, rfl, rfl, ht, rfl, a, x, i, ls, rfl, ha, ll, fun H' s1 => ?_⟩
                have := q H' s1
                unfold numF at this
                rw [evD_pair, if_pos ⟨n0, ci⟩] at this
                exact this
              · rw [show cntD (.int i) = false from decide_eq_false ci]
                refine iteT (non ?_ H (Same.refl _))
                unfold numF
                rw [evD_pair, if_neg fun z => ci z.2]
            | _ => exact iteT (non (by unfold numF; rw [evD_no2 rfl]) H (Same.refl _))
          | _ => exact Bool.noConfusion (show false = true from n0)
      · rw [decide_eq_false (show ¬ V.int (ds.length : Nat) = V.int 2 from fun z => c (by injection z with z; omega))]
        refine iteT (non ?_ H (Same.refl _))
        unfold numF
        rw [evD_len c]
    | _ =>
      exact ⟨_, rfl, _, .ty "tuple", _, _, _, rfl, .ty "tuple", ty, kt, _, rfl, iteT (non rfl H (Same.refl _))⟩
end
end K6

namespace K6
open PySem PySem.Spec PyProof.Rows L2 Hb St Sq Ow En Zp RZ Rd Xb Da Lg
def CntD (kvs : List (Key × V)) (ns : List Str) : Prop := (∀ x : Str, valV kvs (.inr x) = if ns.count x = 0 then none else some (.int (ns.count x : Nat))) ∧ kvs.length ≤ ns.length
theorem CntD.nil : CntD [] [] := ⟨fun x => rfl, Nat.le_refl _⟩
theorem CntD.get {kvs : List (Key × V)} {ns : List Str} (h : CntD kvs ns) (x : Str) : (valV kvs (.inr x)).getD (.int 0) = V.int (ns.count x : Nat) := by
  rw [h.1 x]
  split
  · rename_i z; rw [z]; rfl
  · rfl
theorem CntD.put {kvs : List (Key × V)} {ns : List Str} (h : CntD kvs ns) (x : Str) : CntD (putK kvs (.inr x) (.int ((ns.count x : Nat) + 1))) (ns ++ [x]) := by
  refine ⟨fun y => ?_, ?_⟩
  · rw [valV_put, List.count_append]
    by_cases c : y = x
    · subst c
      rw [if_pos rfl, if_neg (by simp)]
      simp
    · rw [if_neg (fun z => c (by injection z)), h.1 y]
      have : List.count y [x] = 0 := List.count_eq_zero.mpr fun z => c (List.mem_singleton.mp z)
      rw [this, Nat.add_zero]
  · have := length_putK kvs (.inr x : Key) (.int ((ns.count x : Nat) + 1))
    rw [List.length_append]
    have := h.2
    show _ ≤ _ + 1
    omega
/-- a tale that stands on the heap -/
def LTH (H : Hp) (a : Addr) (ls : List LotT) : Prop := ∃ its, H a = some (.tup its) ∧ All2 (LotH H) its ls
theorem LTH.same {H H' : Hp} {a : Addr} {ls : List LotT} (h : LTH H a ls) (s : Same H H') : LTH H' a ls := let ⟨its, e, al⟩ := h; ⟨its, s _ _ e, al.imp fun _ _ r => r.on (.same s)⟩
theorem LTH.lt {K : PySem.W.Frag} {H : Hp} {a : Addr} {ls : List LotT} (h : LTH H a ls) : LT K H a ls := let ⟨its, e, al⟩ := h; ⟨its, e, al.imp fun _ _ ⟨b, e, t⟩ => ⟨b, e, SqT.of t⟩⟩
/-- an event; a lot's events, a tale's -/
def PrS (H : Hp) (v : V) (p : Str × Nat) : Prop := ∃ b, v = .ref b ∧ H b = some (.tup [.str p.1, .int (p.2 : Nat)])
theorem PrS.on {H H' : Hp} {v : V} {p : Str × Nat} (h : PrS H v p) (k : TupK H H') : PrS H' v p := let ⟨b, e, t⟩ := h; ⟨b, e, k _ _ t⟩
def RowE (H : Hp) (v : V) (r : List (Str × Nat)) : Prop := ∃ b its, v = .ref b ∧ H b = some (.tup its) ∧ All2 (PrS H) its r
theorem RowE.on {H H' : Hp} {v : V} {r : List (Str × Nat)} (h : RowE H v r) (k : TupK H H') : RowE H' v r := let ⟨b, its, e, t, al⟩ := h; ⟨b, its, e, k _ _ t, al.imp fun _ _ r => r.on k⟩
/-- a list of events, not at E -/
def RowL (E : Addr) (H : Hp) (v : V) (r : List (Str × Nat)) : Prop := ∃ b its, v = .ref b ∧ b ≠ E ∧ H b = some (.lst its) ∧ All2 (PrS H) its r
theorem ev_take {ls : List LotT} {j : Nat} (h : j < ls.length) : (evF ls).take (j + 1) = (evF ls).take j ++ [evR ls j] := by
  rw [List.take_add_one]
  unfold evF
  rw [List.getElem?_map, List.getElem?_range h]; rfl
theorem flat_at {ls : List LotT} {j : Nat} {l : LotT} (e : ls[j]? = some l) : (ls.take j).flatten ++ l = (ls.take (j + 1)).flatten := by
  rw [List.take_add_one, e, List.flatten_append]
  show _ = _ ++ (l ++ [])
  rw [List.append_nil]
theorem flat_bound {ls : List LotT} {k : Nat} (h : ∀ l ∈ ls, l.length ≤ k) (j : Nat) : ((ls.take j).flatten).length ≤ j * k := by
  induction j with
  | zero => simp
  | succ j ih =>
    rw [List.take_add_one, List.flatten_append, List.length_append, Nat.succ_mul]
    cases e : ls[j]? with
    | none => simpa using Nat.le_trans ih (Nat.le_add_right _ _)
    | some l =>
      have := h l (List.mem_of_getElem? e)
      show _ + (l ++ []).length ≤ _
      rw [List.append_nil]; omega
section
variable {P : Program} {w : World} {K : PySem.W.Frag} {mg : Str → Option Value} {base : Heap}
/-! ### events_of -/
abbrev s_events_of : Stmt := top 11
theorem sc_events_of : FnScope ["tale", "turns", "events", "lot", "name"] ["tale"] (defScope s_events_of) := ⟨rfl, rfl, rfl, by decide +kernel, rfl, by decide +kernel, by decide +kernel⟩
def spEvs (K : PySem.W.Frag) : Sp := fun vs H Q _ => ∃ (a : Addr) (ls : List LotT), vs = [.ref a] ∧ LTH H a ls ∧ ls.length ≤ 1000 ∧ (∀ l ∈ ls, l.length ≤ 1000) ∧ ∀ p its H', Same H H' → H' p = some (.tup its) → All2 (RowE H') its (evF ls) → Q (.ref p) H'
theorem ok_evs {f : Addr} {fd : FuncData} (F : Fun K "events_of" "events_of" s_events_of f fd)  (n_tuple : mg "tuple" = none) : FnOk P w K mg base CX0 1 f fd ["tale"] (spEvs K) := by
  refine F.ok sc_events_of (fun vs H Q E h => ?_) (fun cdv A outer s H vs Q E hr h => ?_)
  · obtain ⟨_, _, rfl, _⟩ := h
    rfl
  · obtain ⟨a, ls, rfl, ha, ll, lm, q⟩ := h
    refine ⟨_, (pss_cons (ps_set (i := 1) sc_events_of.nd rfl (Or.inr rfl) (pe_dnewK))
    (pss_cons (ps_set (i := 2) sc_events_of.nd rfl (Or.inl rfl) (pe_lst pa_nil))
    (Evl.pss_cut (ps_for PassesOwn.never rfl (pi_seq (pv 0)) (pg_name (i := 3) sc_events_of.nd rfl (Or.inl rfl))
      (Evl.pss_cut (ps_for PassesOwn.never rfl (pi_seq (pv 3)) (pg_name (i := 4) sc_events_of.nd rfl (Or.inl rfl))
      (pss_one (ps_dput (hu_of hr) (pv 1) (pv 4) (pe_op op_add (pe_dget2 (hu_of hr) (pv 1) (pv 4) pe_int ⟨rfl, rfl, rfl, rfl⟩) pe_int) rfl)))
    (pss_one (ps_expr (pe_bm PySem.F.plainAttrs_list PySem.F.slot_list_append PySem.F.type_list_append mt_append (pv 2) (pa_cons (pe_callTy call_tuple_of (by rfl) n_tuple (by decide +kernel) (pa_cons (pe_lc (own := [("name", 4)]) (g := gName 4) rfl sc_events_of.nd (pi_seq (pv 3)) (blkOk_by (N := ["tale", "turns", "events", "lot", "name"]) (sc := defScope s_events_of) (by decide +kernel)) (fun _ _ _ _ _ => pg_name (i := 4) sc_events_of.nd rfl (Or.inl rfl)) (fun _ _ _ _ _ => pts_nil) (fun _ _ _ _ _ => pe_tup (pa_cons (pv 4) (pa_cons (pe_dget (hu_of hr) (pv 1) (pv 4) (fun _ _ => rfl)) pa_nil)))) pa_nil)) pa_nil))))))
    (pss_one (ps_ret (pe_callTy call_tuple_of (by rfl) n_tuple (by decide +kernel) (pa_cons (pv 2) pa_nil))))))), ?_⟩
    obtain ⟨its, ea, al⟩ := id ha
    have ln := al.len
    intro d kd
    refine ⟨by show 0 ≤ sizeLine; decide, fun E kE => ?_⟩
    have s0 : Same H (upd (upd H d (.dK [])) E (.lst [])) := (same_new kd _).trans (same_new kE _)
    have dE : d ≠ E := ne_of_none upd_same kE
    have ed0 : upd (upd H d (.dK [])) E (.lst []) d = some (.dK []) := by rw [upd_ne dE]; exact upd_same
    have eE0 : upd (upd H d (.dK [])) E (.lst []) E = some (.lst []) := upd_same
    have nE : H E = none := by rw [upd_ne dE.symm] at kE; exact kE
    have kin : ∀ {H'}, Kept2 d E (upd (upd H d (.dK [])) E (.lst [])) H' → Same H H' := fun {H'} k x o e => k x o (s0 _ _ e) (ne_of_none e kd) (ne_of_none e nE)
    generalize upd (upd H d (.dK [])) E (.lst []) = H0 at s0 ed0 eE0 kin ⊢
    let S : Option V → Option V → L2.St := fun o3 o4 => [some (.ref a), some (.ref d), some (.ref E), o3, o4]
    let IV : List Str → List (List (Str × Nat)) → Hp → Prop := fun ns evs H' => Kept2 d E H0 H' ∧ (∃ kvs, H' d = some (.dK kvs) ∧ CntD kvs ns) ∧ ∃ rows, H' E = some (.lst rows) ∧ All2 (RowE H') rows evs
    refine ⟨fun σ H' => (∃ o3 o4, σ = S o3 o4) ∧ IV ls.flatten (evF ls) H', ?_, ?_⟩
    · refine ⟨_, rfl, a, its, rfl, .inr (SqT.of (s0 _ _ ea)), fun J SS W z0 => ?_⟩
      have ad : a ≠ d := ne_of_none ea kd
      have aE : a ≠ E := ne_of_none ea nE
      refine for_sq W (fun j σ H' => (∃ o3 o4, σ = S o3 o4) ∧ IV ((ls.take j).flatten) ((evF ls).take j) H') ⟨⟨_, _, rfl⟩, Kept2.refl _ _ _, ⟨[], ed0, CntD.nil⟩, [], eE0, .nil⟩ (fun j σ H' pv => W.keep (fun o e => pv.2.1 _ _ e ad aE) z0) ?_ ?_
      · rintro j σ H1 y ey ⟨⟨o3, o4, rfl⟩, k1, ed, eE⟩
        obtain ⟨l, el, b, rfl, eb⟩ := al.get ey
        have hj := (List.getElem?_eq_some_iff.mp el).1
        have lb := lm l (at_mem el)
        have fb := flat_bound lm j
        have fb2 : j * 1000 ≤ 1000000 := by omega
        have bd : b ≠ d := ne_of_none eb kd
        have bE : b ≠ E := ne_of_none eb nE
        have eb1 := kin k1 _ _ eb
        have eD : ls.getD j [] = l := by rw [List.getD_eq_getElem?_getD, el]; rfl
        refine ⟨fun σ H' => (∃ o4, σ = S (some (.ref b)) o4) ∧ IV ((ls.take (j + 1)).flatten) ((evF ls).take j) H', ?_, ?_⟩
        · refine ⟨_, rfl, b, _, rfl, .inr (SqT.of eb1), fun J2 S2 W2 z2 => ?_⟩
          refine for_sq W2 (fun k σ H' => (∃ o4, σ = S (some (.ref b)) o4) ∧ Kept2 d E H1 H' ∧ IV ((ls.take j).flatten ++ l.take k) ((evF ls).take j) H') ⟨⟨_, rfl⟩, Kept2.refl _ _ _, k1, by rw [List.take_zero, List.append_nil]; exact ed, eE⟩ (fun k σ H' pv => W2.keep (fun o e => pv.2.1 _ _ e bd bE) z2) ?_ ?_
          · rintro k σ H2 y2 ey2 ⟨⟨o4, rfl⟩, k12, k2, ⟨kvs, ed2, cd⟩, rows, eE2, alE⟩
            obtain ⟨x, ex, rfl⟩ := str_at ey2
            have hk := (List.getElem?_eq_some_iff.mp ex).1
            have g := DGet.k (k := (.inr x : Key)) ed2
            have lk := cd.2
            rw [List.length_append, List.length_take] at lk
            refine ⟨_, rfl, d, rfl, .inl ⟨_, .inl ed2⟩, _, rfl, _, g, ?_⟩
            rw [cd.get x]
            refine ⟨_, _, rfl, rfl, _, rfl, _, rfl, d, _, rfl, DPut.k (k := (.inr x : Key)) ed2 (by rw [sizeLine_eq]; omega), ?_⟩
            have tk : TupK H2 (upd H2 d (.dK (putK kvs (.inr x) (.int ((((ls.take j).flatten ++ l.take k).count x : Nat) + 1))))) := tupK_upd fun xs z => by rw [ed2] at z; cases z
            refine ⟨⟨_, rfl⟩, k12.trans Kept2.p, k2.trans Kept2.p, ⟨_, upd_same, ?_⟩, rows, by rw [upd_ne dE.symm]; exact eE2, alE.imp fun _ _ r => r.on tk⟩
            have := cd.put x
            rw [List.append_assoc] at this
            rw [List.take_add_one, ex]
            exact this
          · rintro σ H2 ⟨⟨o4, rfl⟩, k12, iv⟩
            rw [List.length_map, List.take_length, flat_at el] at iv
            exact ⟨⟨_, rfl⟩, iv⟩
        · rintro σ H2 ⟨⟨o4, rfl⟩, k2, ⟨kvs, ed2, cd⟩, rows, eE2, alE⟩
          refine ⟨_, rfl, .inl ⟨rfl, rows, SqL.of eE2⟩, _, rfl, b, _, rfl, .inr (SqT.of (kin k2 _ _ eb)), fun J2 S2 W2 z2 D hD => ?_⟩
          have cnt : ∀ x, ((ls.take (j + 1)).flatten).count x = turnN ls j x := fun x => rfl
          refine lc_mf (ds := l) W2 (fun _ => true) (fun H v x => PrS H v (x, turnN ls j x)) z2 hD (by rw [List.length_map]) (fun i v x H' ev ex s m => ?_) (fun H3 ys s3 e3 al3 => ?_)
          · obtain ⟨x2, ex2, rfl⟩ := str_at ev
            obtain rfl : x2 = x := Option.some.inj (ex2.symm.trans ex)
            have g := DGet.k (k := (.inr x2 : Key)) (s _ _ ed2)
            have cp : ((ls.take (j + 1)).flatten).count x2 ≠ 0 := by
              rw [cnt]
              have := turn_pos (ls := ls) (n := j) (x := x2) (by rw [eD]; exact at_mem ex)
              omega
            rw [cd.1 x2, if_neg cp] at g
            refine ⟨rfl, _, rfl, _, rfl, _, rfl, d, _, rfl, g, by show 2 ≤ sizeLine; decide, fun t ht => ?_⟩
            exact mf_yes m hD (fun _ _ _ _ f h => h.on (.fix f)) ex (by omega) (same_new ht _) rfl ⟨t, rfl, upd_same⟩
          · rw [Rd.filter_all] at al3
            refine ⟨D, ys, rfl, .inl ⟨SqL.of e3, fun r hr => ?_⟩⟩
            have s4 := same_new hr (.tup ys)
            have s34 := s3.trans s4
            have lr := alE.len
            have le : ((evF ls).take j).length ≤ j := by rw [List.length_take]; exact Nat.min_le_left _ _
            refine ⟨E, rows, _, rfl, rfl, s34 _ _ eE2, by rw [sizeLine_eq]; omega, ⟨_, _, rfl⟩, (k2.trans (Kept2.same s34)).trans Kept2.l, ⟨kvs, by rw [upd_ne dE]; exact s34 _ _ ed2, cd⟩, _, upd_same, ?_⟩
            have eE5 := s34 _ _ eE2
            have tk : TupK (upd H3 r (.tup ys)) (upd (upd H3 r (.tup ys)) E (.lst (rows ++ [.ref r]))) := tupK_upd fun xs z => by rw [eE5] at z; cases z
            rw [ev_take hj]
            refine (alE.imp fun _ _ h => (RowE.on h (.same s34)).on tk).app (.cons ⟨r, ys, rfl, tk _ _ upd_same, ?_⟩ .nil)
            unfold evR
            rw [eD]
            exact all2_mapR (al3.imp fun _ _ h => (PrS.on h (.same s4)).on tk)
      · rintro σ H1 ⟨⟨o3, o4, rfl⟩, iv⟩
        rw [ln, List.take_length, List.take_of_length_le (by unfold evF; rw [List.length_map, List.length_range]; exact Nat.le_refl _)] at iv
        exact ⟨⟨_, _, rfl⟩, iv⟩
    · rintro σ H1 ⟨⟨o3, o4, rfl⟩, k1, _, rows, eE, alE⟩
      refine ⟨_, rfl, E, rows, rfl, .inl ⟨SqL.of eE, fun p hp => ?_⟩⟩
      have s2 := same_new hp (.tup rows)
      exact q p rows _ ((kin k1).trans s2) upd_same (alE.imp fun _ _ r => r.on (.same s2))
end
end K6

namespace K6
open PySem PySem.Spec PyProof.Rows L2 Hb St Sq Ow En Zp RZ Rd Xb Da Lg
theorem wp_enT {K : PySem.W.Frag} {a : Addr} {xs : List V} : Wp (En.IteT K a) (fun H => SqT K H a xs) (((List.range xs.length).map fun (i : Nat) => V.int ((i : Nat) : Int)).zip xs) where
  go := fun i H hi s => by
    simp only [List.length_zip, List.length_map, List.length_range, Nat.min_self] at hi
    exact en_tup.go i H hi s
  stop := fun H s => by
    have := (en_tup (K := K) (a := a) (xs := xs)).stop H s
    simpa using this
  yld := fun i H v H' hi s y => by
    obtain ⟨T, x, e1, e2, e3, g⟩ := en_tup.yld i H v H' s y
    simp only [List.length_zip, List.length_map, List.length_range, Nat.min_self] at hi
    exact ⟨T, (.int ((i : Nat) : Int), x), e1, e2, e3, zip_at (by rw [List.getElem?_map, List.getElem?_range hi]; rfl) g⟩
  keep := fun k s => SqTk s k
theorem RowL.keep {d E : Addr} {H H' : Hp} {v : V} {r : List (Str × Nat)} (h : RowL E H v r) (k : Kept2 d E H H') (ed : ∃ kvs, H d = some (.dK kvs)) (eE : ∃ rows, H E = some (.lst rows)) : RowL E H' v r := by
  obtain ⟨b, its, e, n, t, al⟩ := h
  obtain ⟨kvs, ed⟩ := ed
  obtain ⟨rows, eE⟩ := eE
  exact ⟨b, its, e, n, k _ _ t (fun z => by rw [z, ed] at t; cases t) n, al.imp fun _ _ r => r.on fun c xs ec => k c _ ec (fun z => by rw [z, ed] at ec; cases ec) (fun z => by rw [z, eE] at ec; cases ec)⟩
theorem RowL.same {E : Addr} {H H' : Hp} {v : V} {r : List (Str × Nat)} (h : RowL E H v r) (s : Same H H') : RowL E H' v r :=
  let ⟨b, its, e, n, t, al⟩ := h; ⟨b, its, e, n, s _ _ t, al.imp fun _ _ r => r.on (.same s)⟩
section
variable {P : Program} {w : World} {K : PySem.W.Frag} {mg : Str → Option Value} {base : Heap}
/-! ### _law_events -/
abbrev s__law_events : Stmt := top 39
theorem sc__law_events : FnScope ["lots", "many", "found", "lot", "name"] ["lots"] (defScope s__law_events) := ⟨rfl, rfl, rfl, by decide +kernel, rfl, by decide +kernel, by decide +kernel⟩
def spLEvs (K : PySem.W.Frag) : Sp := fun vs H Q _ => ∃ (a : Addr) (its : List V) (ls : List LotT), vs = [.ref a] ∧ H a = some (.lst its) ∧ All2 (LotH H) its ls ∧ ls.length ≤ 1000 ∧ (∀ l ∈ ls, l.length ≤ 1000) ∧ ∀ p rows H', H p = none → Same H H' → H' p = some (.lst rows) → All2 (RowL p H') rows (evF ls) → Q (.ref p) H'
theorem ok_levs {f : Addr} {fd : FuncData} (F : Fun K "_law_events" "_law_events" s__law_events f fd)  : FnOk P w K mg base CX0 1 f fd ["lots"] (spLEvs K) := by
  refine F.ok sc__law_events (fun vs H Q E h => ?_) (fun cdv A outer s H vs Q E hr h => ?_)
  · obtain ⟨_, _, _, rfl, _⟩ := h
    rfl
  · obtain ⟨a, its, ls, rfl, ea, al, ll, lm, q⟩ := h
    refine ⟨_, (pss_cons (ps_asg (pe_tup (pa_cons (pe_dnewK) (pa_cons (pe_lst pa_nil) pa_nil))) (pg_tup rfl (pgs_cons (pg_name (i := 1) sc__law_events.nd rfl (Or.inr rfl)) (pgs_cons (pg_name (i := 2) sc__law_events.nd rfl (Or.inl rfl)) pgs_nil))))
    (Evl.pss_cut (ps_for PassesOwn.never rfl (pi_seq (pv 0)) (pg_name (i := 3) sc__law_events.nd rfl (Or.inl rfl))
      (Evl.pss_cut (ps_for PassesOwn.never rfl (pi_seq (pv 3)) (pg_name (i := 4) sc__law_events.nd rfl (Or.inl rfl))
      (pss_one (ps_dput (hu_of hr) (pv 1) (pv 4) (pe_op op_add (pe_dget2 (hu_of hr) (pv 1) (pv 4) pe_int ⟨rfl, rfl, rfl, rfl⟩) pe_int) rfl)))
    (pss_one (ps_expr (pe_bm PySem.F.plainAttrs_list PySem.F.slot_list_append PySem.F.type_list_append mt_append (pv 2) (pa_cons (pe_lc (own := [("name", 4)]) (g := gName 4) rfl sc__law_events.nd (pi_seq (pv 3)) (blkOk_by (N := ["lots", "many", "found", "lot", "name"]) (sc := defScope s__law_events) (by decide +kernel)) (fun _ _ _ _ _ => pg_name (i := 4) sc__law_events.nd rfl (Or.inl rfl)) (fun _ _ _ _ _ => pts_nil) (fun _ _ _ _ _ => pe_tup (pa_cons (pv 4) (pa_cons (pe_dget (hu_of hr) (pv 1) (pv 4) (fun _ _ => rfl)) pa_nil)))) pa_nil))))))
    (pss_one (ps_ret (pv 2))))), ?_⟩
    have ln := al.len
    intro d kd
    refine ⟨by show 0 ≤ sizeLine; decide, fun E kE => ?_⟩
    have s0 : Same H (upd (upd H d (.dK [])) E (.lst [])) := (same_new kd _).trans (same_new kE _)
    have dE : d ≠ E := ne_of_none upd_same kE
    have ed0 : upd (upd H d (.dK [])) E (.lst []) d = some (.dK []) := by rw [upd_ne dE]; exact upd_same
    have eE0 : upd (upd H d (.dK [])) E (.lst []) E = some (.lst []) := upd_same
    have nE : H E = none := by rw [upd_ne dE.symm] at kE; exact kE
    have kin0 : ∀ {H'}, Kept2 d E (upd (upd H d (.dK [])) E (.lst [])) H' → Same H H' := fun {H'} k x o e => k x o (s0 _ _ e) (ne_of_none e kd) (ne_of_none e nE)
    generalize upd (upd H d (.dK [])) E (.lst []) = H00 at s0 ed0 eE0 kin0 ⊢
    refine ⟨by show 2 ≤ sizeLine; decide, fun tp ktp => ⟨tp, _, rfl, SqT.of upd_same, rfl, _, _, rfl, _, _, rfl, rfl, ?_⟩⟩
    have st := same_new ktp (.tup [V.ref d, .ref E])
    replace ed0 := st _ _ ed0
    replace eE0 := st _ _ eE0
    replace s0 := s0.trans st
    have kin : ∀ {H'}, Kept2 d E (upd H00 tp (.tup [V.ref d, .ref E])) H' → Same H H' := fun {H'} k => kin0 ((Kept2.same st).trans k)
    generalize upd H00 tp (.tup [V.ref d, .ref E]) = H0 at st ed0 eE0 s0 kin ⊢
    let S : Option V → Option V → L2.St := fun o3 o4 => [some (.ref a), some (.ref d), some (.ref E), o3, o4]
    let IV : List Str → List (List (Str × Nat)) → Hp → Prop := fun ns evs H' => Kept2 d E H0 H' ∧ (∃ kvs, H' d = some (.dK kvs) ∧ CntD kvs ns) ∧ ∃ rows, H' E = some (.lst rows) ∧ All2 (RowL E H') rows evs
    refine ⟨fun σ H' => (∃ o3 o4, σ = S o3 o4) ∧ IV ls.flatten (evF ls) H', ?_, ?_⟩
    · refine ⟨_, rfl, a, its, rfl, .inl (SqL.of (s0 _ _ ea)), fun J SS W z0 => ?_⟩
      have ad : a ≠ d := ne_of_none ea kd
      have aE : a ≠ E := ne_of_none ea nE
      refine for_sq W (fun j σ H' => (∃ o3 o4, σ = S o3 o4) ∧ IV ((ls.take j).flatten) ((evF ls).take j) H') ⟨⟨_, _, rfl⟩, Kept2.refl _ _ _, ⟨[], ed0, CntD.nil⟩, [], eE0, .nil⟩ (fun j σ H' pv => W.keep (fun o e => pv.2.1 _ _ e ad aE) z0) ?_ ?_
      · rintro j σ H1 y ey ⟨⟨o3, o4, rfl⟩, k1, ed, eE⟩
        obtain ⟨l, el, b, rfl, eb⟩ := al.get ey
        have hj := (List.getElem?_eq_some_iff.mp el).1
        have lb := lm l (at_mem el)
        have fb := flat_bound lm j
        have fb2 : j * 1000 ≤ 1000000 := by omega
        have bd : b ≠ d := ne_of_none eb kd
        have bE : b ≠ E := ne_of_none eb nE
        have eb1 := kin k1 _ _ eb
        have eD : ls.getD j [] = l := by rw [List.getD_eq_getElem?_getD, el]; rfl
        refine ⟨fun σ H' => (∃ o4, σ = S (some (.ref b)) o4) ∧ IV ((ls.take (j + 1)).flatten) ((evF ls).take j) H', ?_, ?_⟩
        · refine ⟨_, rfl, b, _, rfl, .inr (SqT.of eb1), fun J2 S2 W2 z2 => ?_⟩
          refine for_sq W2 (fun k σ H' => (∃ o4, σ = S (some (.ref b)) o4) ∧ Kept2 d E H1 H' ∧ IV ((ls.take j).flatten ++ l.take k) ((evF ls).take j) H') ⟨⟨_, rfl⟩, Kept2.refl _ _ _, k1, by rw [List.take_zero, List.append_nil]; exact ed, eE⟩ (fun k σ H' pv => W2.keep (fun o e => pv.2.1 _ _ e bd bE) z2) ?_ ?_
          · rintro k σ H2 y2 ey2 ⟨⟨o4, rfl⟩, k12, k2, ⟨kvs, ed2, cd⟩, rows, eE2, alE⟩
            obtain ⟨x, ex, rfl⟩ := str_at ey2
            have hk := (List.getElem?_eq_some_iff.mp ex).1
            have g := DGet.k (k := (.inr x : Key)) ed2
            have lk := cd.2
            rw [List.length_append, List.length_take] at lk
            refine ⟨_, rfl, d, rfl, .inl ⟨_, .inl ed2⟩, _, rfl, _, g, ?_⟩
            rw [cd.get x]
            refine ⟨_, _, rfl, rfl, _, rfl, _, rfl, d, _, rfl, DPut.k (k := (.inr x : Key)) ed2 (by rw [sizeLine_eq]; omega), ?_⟩
            have kp : Kept2 d E H2 (upd H2 d (.dK (putK kvs (.inr x) (.int ((((ls.take j).flatten ++ l.take k).count x : Nat) + 1))))) := Kept2.p
            refine ⟨⟨_, rfl⟩, k12.trans Kept2.p, k2.trans Kept2.p, ⟨_, upd_same, ?_⟩, rows, by rw [upd_ne dE.symm]; exact eE2, alE.imp fun _ _ r => RowL.keep r kp ⟨_, ed2⟩ ⟨_, eE2⟩⟩
            have := cd.put x
            rw [List.append_assoc] at this
            rw [List.take_add_one, ex]
            exact this
          · rintro σ H2 ⟨⟨o4, rfl⟩, k12, iv⟩
            rw [List.length_map, List.take_length, flat_at el] at iv
            exact ⟨⟨_, rfl⟩, iv⟩
        · rintro σ H2 ⟨⟨o4, rfl⟩, k2, ⟨kvs, ed2, cd⟩, rows, eE2, alE⟩
          refine ⟨_, rfl, .inl ⟨rfl, rows, SqL.of eE2⟩, _, rfl, b, _, rfl, .inr (SqT.of (kin k2 _ _ eb)), fun J2 S2 W2 z2 D hD => ?_⟩
          have cnt : ∀ x, ((ls.take (j + 1)).flatten).count x = turnN ls j x := fun x => rfl
          refine lc_mf (ds := l) W2 (fun _ => true) (fun H v x => PrS H v (x, turnN ls j x)) z2 hD (by rw [List.length_map]) (fun i v x H' ev ex s m => ?_) (fun H3 ys s3 e3 al3 => ?_)
          · obtain ⟨x2, ex2, rfl⟩ := str_at ev
            obtain rfl : x2 = x := Option.some.inj (ex2.symm.trans ex)
            have g := DGet.k (k := (.inr x2 : Key)) (s _ _ ed2)
            have cp : ((ls.take (j + 1)).flatten).count x2 ≠ 0 := by
              rw [cnt]
              have := turn_pos (ls := ls) (n := j) (x := x2) (by rw [eD]; exact at_mem ex)
              omega
            rw [cd.1 x2, if_neg cp] at g
            refine ⟨rfl, _, rfl, _, rfl, _, rfl, d, _, rfl, g, by show 2 ≤ sizeLine; decide, fun t ht => ?_⟩
            exact mf_yes m hD (fun _ _ _ _ f h => h.on (.fix f)) ex (by omega) (same_new ht _) rfl ⟨t, rfl, upd_same⟩
          · rw [Rd.filter_all] at al3
            have lr := alE.len
            have le : ((evF ls).take j).length ≤ j := by rw [List.length_take]; exact Nat.min_le_left _ _
            have DE : D ≠ E := fun z => by rw [z, eE2] at hD; cases hD
            have eE3 := s3 _ _ eE2
            have kp : Kept2 d E H3 (upd H3 E (.lst (rows ++ [.ref D]))) := Kept2.l
            refine ⟨E, rows, _, rfl, rfl, eE3, by rw [sizeLine_eq]; omega, ⟨_, _, rfl⟩, (k2.trans (Kept2.same s3)).trans Kept2.l, ⟨kvs, by rw [upd_ne dE]; exact s3 _ _ ed2, cd⟩, _, upd_same, ?_⟩
            rw [ev_take hj]
            refine (alE.imp fun _ _ h => (RowL.same h s3).keep kp ⟨_, s3 _ _ ed2⟩ ⟨_, eE3⟩).app (.cons ⟨D, ys, rfl, DE, by rw [upd_ne DE]; exact e3, ?_⟩ .nil)
            have tk : TupK H3 (upd H3 E (.lst (rows ++ [.ref D]))) := tupK_upd fun xs z => by rw [eE3] at z; cases z
            unfold evR
            rw [eD]
            exact all2_mapR (al3.imp fun _ _ h => PrS.on h tk)
      · rintro σ H1 ⟨⟨o3, o4, rfl⟩, iv⟩
        rw [ln, List.take_length, List.take_of_length_le (by unfold evF; rw [List.length_map, List.length_range]; exact Nat.le_refl _)] at iv
        exact ⟨⟨_, _, rfl⟩, iv⟩
    · rintro σ H1 ⟨⟨o3, o4, rfl⟩, k1, _, rows, eE, alE⟩
      exact ⟨_, rfl, q E rows _ nE (kin k1) eE alE⟩
end
end K6

namespace K6
open PySem PySem.Spec PyProof.Rows L2 Hb St Sq Ow En Zp RZ Rd Xb Da Lg
def evPD (p : Str × Nat) : PyData := .tuple [.str p.1, .int (p.2 : Nat)]
theorem PrS.dp {K : PySem.W.Frag} {H : Hp} {v : V} {p : Str × Nat} (h : PrS H v p) : Dp K H v (evPD p) := let ⟨_, e, t⟩ := h; e ▸ .tup (SqT.of t) (.cons (.str _) (.cons (.int _) .nil))
theorem sh_evP {p : Str × Nat} (h : IsNm p.1) : Sh 1 (evPD p) := by
  obtain ⟨a, b⟩ := sh_all (f := fun d : PyData => d) (n := 0) (l := [.str p.1, .int (p.2 : Nat)]) fun d hd => by
    simp only [List.mem_cons, List.not_mem_nil, or_false] at hd
    rcases hd with rfl | rfl
    · exact sh_str h
    · exact sh_int 0 _
  rw [List.map_id'] at a b
  exact ⟨a, Nat.succ_le_succ b⟩
theorem eqv_evP (p q : Str × Nat) : PyData.eqv (evPD p) (evPD q) = decide (p = q) := by
  show (PyData.eqv (.str p.1) (.str q.1) && (PyData.eqv (.int (p.2 : Nat)) (.int (q.2 : Nat)) && true)) = _
  rw [eqv_str, eqv_int, Bool.and_true, Bool.eq_iff_iff, Bool.and_eq_true, decide_eq_true_iff, decide_eq_true_iff, decide_eq_true_iff]
  exact ⟨fun ⟨a, b⟩ => Prod.ext a (Int.ofNat_inj.mp b), fun e => by rw [e]; exact ⟨rfl, rfl⟩⟩
theorem rd_neE {K : PySem.W.Frag} {H : Hp} {Q : VK} {v u : V} {p q : Str × Nat} (h1 : PrS H v p) (h2 : PrS H u q) (n1 : IsNm p.1) (n2 : IsNm q.1) (k : Q (.bl (!decide (p = q))) H) : rNeD K v u H Q :=
  ⟨evPD p, evPD q, h1.dp, h2.dp, (sh_evP n1).ok (by decide), (sh_evP n2).ok (by decide), by rw [eqv_evP]; exact k⟩
theorem dp_strs {K : PySem.W.Frag} {H : Hp} : ∀ l : List Str, DpAll K H (l.map V.str) (l.map PyData.str)
  | [] => .nil
  | x :: l => .cons (.str x) (dp_strs l)
/-! ### without an event -/
def leftN (ls : List LotT) (e : Str × Nat) (j : Nat) : LotT := (ls.getD j []).filter fun y => !decide ((y, turnN ls j y) = e)
def oneL (l : LotT) : List LotT := if l = [] then [] else [l]
def woF (ls : List LotT) (e : Str × Nat) (n : Nat) : List LotT := (List.range n).flatMap fun j => oneL (leftN ls e j)
theorem wo_succ (ls : List LotT) (e : Str × Nat) (n : Nat) : woF ls e (n + 1) = woF ls e n ++ oneL (leftN ls e n) := by
  unfold woF
  rw [List.range_succ, List.flatMap_append]
  simp
theorem wo_len (ls : List LotT) (e : Str × Nat) : ∀ n, (woF ls e n).length ≤ n
  | 0 => Nat.le_refl _
  | n + 1 => by
    have := wo_len ls e n
    rw [wo_succ, List.length_append]
    unfold oneL
    split
    · show _ + 0 ≤ _; omega
    · show _ + 1 ≤ _; omega
theorem turn_lt {ls : List LotT} {x : Str} : ∀ {i j : Nat}, i < j → x ∈ ls.getD j [] → turnN ls i x < turnN ls j x := fun {i j} hij hx => by
  have hj : j < ls.length := by
    apply Classical.byContradiction
    intro c
    rw [List.getD_eq_getElem?_getD, List.getElem?_eq_none (by omega)] at hx
    cases hx
  have el := List.getElem?_eq_getElem hj
  have hx : x ∈ ls[j] := by rw [List.getD_eq_getElem?_getD, el] at hx; exact hx
  have e1 : turnN ls j x = ((ls.take j).flatten).count x + (ls[j]).count x := by
    unfold turnN
    rw [← flat_at el, List.count_append]
  have e2 : turnN ls i x ≤ ((ls.take j).flatten).count x := by
    unfold turnN
    have : ls.take (i + 1) = (ls.take j).take (i + 1) := by rw [List.take_take, Nat.min_eq_left (by omega)]
    rw [this]
    conv => rhs; rw [← List.take_append_drop (i + 1) (ls.take j)]
    rw [List.flatten_append, List.count_append]
    exact Nat.le_add_right _ _
  have := List.count_pos_iff.mpr hx
  omega
theorem turn_inj {ls : List LotT} {x : Str} {i j : Nat} (hi : x ∈ ls.getD i []) (hj : x ∈ ls.getD j []) (e : turnN ls i x = turnN ls j x) : i = j := by
  rcases Nat.lt_trichotomy i j with h | h | h
  · have := turn_lt h hj; omega
  · exact h
  · have := turn_lt h hi; omega
theorem left_other {ls : List LotT} {x : Str} {n j : Nat} (hx : x ∈ ls.getD n []) (h : j ≠ n) : leftN ls (x, turnN ls n x) j = ls.getD j [] := by
  unfold leftN
  rw [List.filter_eq_self]
  intro y hy
  rw [Bool.not_eq_true', decide_eq_false_iff_not]
  intro e
  injection e with e1 e2
  subst e1
  exact h (turn_inj hy hx e2)
theorem left_same {ls : List LotT} {x : Str} {n : Nat} : leftN ls (x, turnN ls n x) n = restN ls x n := by
  unfold leftN restN
  refine List.filter_congr fun y hy => ?_
  congr 1
  exact decide_eq_decide.mpr ⟨fun e => by injection e, fun e => by rw [e]⟩
theorem wo_sil {ls : List LotT} {x : Str} {n : Nat} (ne : ∀ l ∈ ls, l ≠ []) (hx : x ∈ ls.getD n []) (hn : n < ls.length) : woF ls (x, turnN ls n x) ls.length = silN ls x n := by
  have go : ∀ k, k ≤ ls.length → woF ls (x, turnN ls n x) k = if k ≤ n then ls.take k else ls.take n ++ oneL (restN ls x n) ++ (ls.drop (n + 1)).take (k - (n + 1)) := fun k => by
    induction k with
    | zero => intro _; rw [if_pos (Nat.zero_le _)]; rfl
    | succ k ih =>
      intro hk
      rw [wo_succ, ih (by omega)]
      have ek : ls.getD k [] = ls[k] := by rw [List.getD_eq_getElem?_getD, List.getElem?_eq_getElem (by omega)]; rfl
      have nk : ls[k] ≠ [] := ne _ (List.getElem_mem _)
      by_cases c1 : k = n
      · subst c1
        rw [if_pos (Nat.le_refl _), if_neg (by omega), left_same, Nat.sub_self, List.take_zero, List.append_nil]
      · rw [left_other hx c1, ek]
        have o : oneL ls[k] = [ls[k]] := if_neg nk
        rw [o]
        by_cases c2 : k ≤ n
        · rw [if_pos c2, if_pos (by omega), List.take_add_one, List.getElem?_eq_getElem (by omega)]; rfl
        · rw [if_neg c2, if_neg (by omega), List.append_assoc, show k + 1 - (n + 1) = (k - (n + 1)) + 1 by omega, List.take_add_one, List.getElem?_drop, show n + 1 + (k - (n + 1)) = k by omega, List.getElem?_eq_getElem (by omega)]; rfl
  rw [go _ (Nat.le_refl _), if_neg (by omega)]
  have e : (ls.drop (n + 1)).take (ls.length - (n + 1)) = ls.drop (n + 1) := List.take_of_length_le (by rw [List.length_drop]; exact Nat.le_refl _)
  rw [e]
  rfl
section
variable {P : Program} {w : World} {K : PySem.W.Frag} {mg : Str → Option Value} {base : Heap}
/-! ### _law_without -/
abbrev s__law_without : Stmt := top 40
theorem sc__law_without : FnScope ["lots", "events", "event", "found", "at", "lot", "left", "to", "name"] ["lots", "events", "event"] (defScope s__law_without) := ⟨rfl, rfl, rfl, by decide +kernel, rfl, by decide +kernel, by decide +kernel⟩
def spLWo (K : PySem.W.Frag) : Sp := fun vs H Q _ => ∃ (a p : Addr) (v : V) (its rows : List V) (ls : List LotT) (e : Str × Nat), vs = [.ref a, .ref p, v] ∧ H a = some (.lst its) ∧ All2 (LotH H) its ls ∧ H p = some (.lst rows) ∧ All2 (RowL p H) rows (evF ls) ∧ PrS H v e ∧ IsNm e.1 ∧ ls.length ≤ 1000 ∧ (∀ l ∈ ls, l.length ≤ 1000 ∧ ∀ x ∈ l, IsNm x) ∧ ∀ r jts H', Same H H' → H' r = some (.lst jts) → All2 (LotH H') jts (woF ls e ls.length) → Q (.ref r) H'
theorem ok_lwo {f : Addr} {fd : FuncData} (F : Fun K "_law_without" "_law_without" s__law_without f fd) (n_enumerate : mg "enumerate" = none) (n_tuple : mg "tuple" = none) : FnOk P w K mg base CX0 1 f fd ["lots", "events", "event"] (spLWo K) := by
  refine F.ok sc__law_without (fun vs H Q E h => ?_) (fun cdv A outer s H vs Q E hr h => ?_)
  · obtain ⟨_, _, _, _, _, _, _, rfl, _⟩ := h
    rfl
  · obtain ⟨a, p, v, its, rows, ls, e, rfl, ea, al, ep, alr, hv, ne, ll, lm, q⟩ := h
    refine ⟨_, (pss_cons (ps_set (i := 3) sc__law_without.nd rfl (Or.inl rfl) (pe_lst pa_nil))
    (Evl.pss_cut (ps_for PassesOwn.never rfl (pi_enum (by rfl) n_enumerate (pa_cons (pv 0) pa_nil)) (pg_tup rfl (pgs_cons (pg_name (i := 4) sc__law_without.nd rfl (Or.inr rfl)) (pgs_cons (pg_name (i := 5) sc__law_without.nd rfl (Or.inl rfl)) pgs_nil)))
      (pss_cons (ps_set (i := 6) sc__law_without.nd rfl (Or.inl rfl) (pe_callTy call_tuple_of (by rfl) n_tuple (by decide +kernel) (pa_cons (pe_lc (own := [("to", 7), ("name", 8)]) (g := gTup K 2 (gCons (gName 7) (gCons (gName 8) gNil))) rfl sc__law_without.nd (pi_enumT (by rfl) n_enumerate (pa_cons (pv 5) pa_nil)) (blkOk_by (N := ["lots", "events", "event", "found", "at", "lot", "left", "to", "name"]) (sc := defScope s__law_without) (by decide +kernel)) (fun _ _ _ _ _ => pg_tup rfl (pgs_cons (pg_name (i := 7) sc__law_without.nd rfl (Or.inl rfl)) (pgs_cons (pg_name (i := 8) sc__law_without.nd rfl (Or.inl rfl)) pgs_nil))) (fun _ _ _ _ _ => pts_one (pt_cmpR (r := rNeD K) (op_neD hr.units) (pe_ix (r := rIxL K) ix_list (pe_ix (r := rIxL K) ix_list (pv 1) (pv 4) (fun _ _ => rfl)) (pv 7) (fun _ _ => rfl)) (pv 2) (nomark _))) (fun _ _ _ _ _ => pv 8)) pa_nil)))
    (pss_one (ps_set (i := 3) sc__law_without.nd rfl (Or.inl rfl) (pe_op op_cat (pv 3) (pe_ifExp (pt_cmpR (op_neD hr.units) (pv 6) (pe_tup pa_nil) (nomark _)) (pe_lst (pa_cons (pv 6) pa_nil)) (pe_lst pa_nil)))))))
    (pss_one (ps_ret (pv 3))))), ?_⟩
    have ln := al.len
    refine ⟨by show 0 ≤ sizeLine; decide, fun F0 kF => ?_⟩
    have s0 := same_new kF (.lst [])
    have eF0 : upd H F0 (.lst []) F0 = some (.lst []) := upd_same
    generalize upd H F0 (.lst []) = H0 at s0 eF0 ⊢
    let S : Addr → Option V → Option V → Option V → Option V → Option V → L2.St := fun F o4 o5 o6 o7 o8 => [some (.ref a), some (.ref p), some v, some (.ref F), o4, o5, o6, o7, o8]
    let IV : Nat → Addr → Hp → Prop := fun j F H' => Same H H' ∧ ∃ jts, H' F = some (.lst jts) ∧ All2 (LotH H') jts (woF ls e j)
    refine ⟨fun σ H' => ∃ F o4 o5 o6 o7 o8, σ = S F o4 o5 o6 o7 o8 ∧ IV ls.length F H', ?_, ?_⟩
    · refine ⟨_, rfl, a, its, rfl, SqL.of (s0 _ _ ea), ?_⟩
      refine for_en en_list (fun j σ H' => ∃ F o4 o5 o6 o7 o8, σ = S F o4 o5 o6 o7 o8 ∧ IV j F H') ⟨F0, _, _, _, _, _, rfl, s0, [], eF0, .nil⟩ (fun j σ H' pv => let ⟨_, _, _, _, _, _, _, s, _⟩ := pv; SqL.of (s _ _ ea)) ?_ ?_
      · rintro j σ H1 y t ey ⟨F, o4, o5, o6, o7, o8, rfl, s1, jts, eF, alj⟩ ht
        obtain ⟨l, el, b, rfl, eb⟩ := al.get ey
        have hj := (List.getElem?_eq_some_iff.mp el).1
        obtain ⟨lb, lnm⟩ := lm l (at_mem el)
        have eD : ls.getD j [] = l := by rw [List.getD_eq_getElem?_getD, el]; rfl
        have s2 := same_new ht (.tup [.int (j : Nat), .ref b])
        refine ⟨t, _, rfl, SqT.of upd_same, rfl, _, _, rfl, _, _, rfl, rfl, ?_⟩
        generalize upd H1 t (.tup [.int (j : Nat), .ref b]) = H2 at s2 ⊢
        have s02 := s1.trans s2
        have eb2 := s02 _ _ eb
        obtain ⟨rv, erv, hrv⟩ := alr.getR (show (evF ls)[j]? = some (evR ls j) by unfold evF; rw [List.getElem?_map, List.getElem?_range hj]; rfl)
        obtain ⟨rb, rits, rfl, rbp, erb, alrb⟩ := hrv
        have hvn := hv.on (.same s02)
        refine ⟨_, rfl, b, rfl, ⟨_, SqT.of eb2⟩, fun D hD => ?_⟩
        refine lc_mp wp_enT (ds := (List.range l.length).zip l) (fun z => !decide ((z.2, turnN ls j z.2) = e)) (fun _ y z => y = .str z.2) (SqT.of eb2) hD (by simp) (fun _ _ _ _ _ h => h) (fun i T pp d H3 epp ed s3 eT m => ?_) (fun H3 ys s3 e3 al3 => ?_)
        · obtain ⟨b1, b2⟩ := List.getElem?_zip_eq_some.mp ed
          have hi := (List.getElem?_eq_some_iff.mp b2).1
          have d1 : d.1 = i := by
            rw [List.getElem?_range hi] at b1
            exact (Option.some.inj b1).symm
          have hp : pp = (.int ((i : Nat) : Int), .str d.2) := by
            obtain ⟨a1, a2⟩ := List.getElem?_zip_eq_some.mp epp
            rw [List.getElem?_map, b2] at a2
            rw [List.length_map, List.getElem?_map, List.getElem?_range hi] at a1
            exact Prod.ext (Option.some.inj a1).symm (Option.some.inj a2).symm
          subst hp
          have s23 := s02.trans s3
          obtain ⟨pv_, epv, hpv⟩ := alrb.getR (show (evR ls j)[i]? = some (d.2, turnN ls j d.2) by unfold evR; rw [eD, List.getElem?_map, b2]; rfl)
          refine ⟨T, _, rfl, SqT.of eT, rfl, _, _, rfl, _, _, rfl, rfl, rfl, ?_⟩
          refine ⟨_, rfl, _, rfl, p, rows, _, _, rfl, rfl, SqL.of (s23 _ _ ep), atI_nat erv, _, rfl, rb, rits, _, _, rfl, rfl, SqL.of (s23 _ _ erb), atI_nat epv, _, rfl, ?_⟩
          refine rd_neE (hpv.on (.same s23)) (hvn.on (.same s3)) (lnm d.2 (at_mem b2)) ne ⟨_, rfl, ?_⟩
          cases c : !decide ((d.2, turnN ls j d.2) = e) with
          | true => exact iteT ⟨_, rfl, mf_yes m hD (fun _ _ _ _ _ h => h) ed (by simp; omega) (Same.refl _) c rfl⟩
          | false => exact iteF (mf_no m (fun _ _ _ _ _ h => h) ed (Same.refl _) c)
        · have ez : ys = (leftN ls e j).map V.str := by
            have z1 := al3.map_eq (f := fun z : Nat × Str => V.str z.2) fun _ _ h => h
            rw [z1]
            have z2 : (((List.range l.length).zip l).filter fun z => !decide ((z.2, turnN ls j z.2) = e)).map (fun z : Nat × Str => z.2) = l.filter fun y => !decide ((y, turnN ls j y) = e) := by
              have : l = ((List.range l.length).zip l).map (fun z : Nat × Str => z.2) := by rw [List.map_snd_zip (by simp)]
              conv => rhs; rw [this]
              rw [List.filter_map]; rfl
            unfold leftN
            rw [eD, ← z2, List.map_map]; rfl
          rw [ez] at e3
          refine ⟨D, _, rfl, .inl ⟨SqL.of e3, fun r hr => ?_⟩⟩
          have s4 := same_new hr (.tup ((leftN ls e j).map V.str))
          have e4 : upd H3 r (.tup ((leftN ls e j).map V.str)) r = some (.tup ((leftN ls e j).map V.str)) := upd_same
          generalize upd H3 r (.tup ((leftN ls e j).map V.str)) = H4 at s4 e4 ⊢
          have ls_ : ∀ x ∈ leftN ls e j, IsNm x := fun x hx => lnm x (by have := (List.mem_filter.mp hx).1; rw [eD] at this; exact this)
          refine ⟨_, rfl, _, rfl, by show 0 ≤ sizeLine; decide, fun t0 kt0 => ?_⟩
          have s5 := same_new kt0 (.tup [])
          have e5 : upd H4 t0 (.tup []) t0 = some (.tup []) := upd_same
          generalize upd H4 t0 (.tup []) = H5 at s5 e5 ⊢
          refine ⟨.tuple ((leftN ls e j).map .str), .tuple [], .tup (SqT.of (s5 _ _ e4)) (dp_strs _), .tup (SqT.of e5) .nil, (sh_tup fun x hx => sh_str (n := 0) (ls_ x hx)).ok (by decide), by decide, ?_⟩
          have eq : PyData.eqv (.tuple ((leftN ls e j).map .str)) (.tuple []) = decide (leftN ls e j = []) := by cases leftN ls e j <;> rfl
          rw [eq]
          refine ⟨_, rfl, ?_⟩
          have s15 := ((s2.trans s3).trans s4).trans s5
          have ls1 : jts.length ≤ 1000 := by rw [alj.len]; have := wo_len ls e j; omega
          have fin : ∀ (q1 : Addr) (mid : List V) (H6 : Hp), Same H5 H6 → H6 q1 = some (.lst mid) → mid.length ≤ 1 → All2 (LotH H6) mid (oneL (leftN ls e j)) → ∀ R : VK, (∀ c H7, IV (j + 1) c H7 → R (.ref c) H7) → rCat (.ref F) (.ref q1) H6 R := fun q1 mid H6 s6 e6 lm6 al6 R hR => by
            have s16 := s15.trans s6
            refine ⟨F, q1, jts, mid, rfl, rfl, s16 _ _ eF, e6, by rw [sizeLine_eq]; omega, fun c kc => ?_⟩
            have s7 := same_new kc (.lst (jts ++ mid))
            refine hR c _ ⟨(s1.trans s16).trans s7, _, upd_same, ?_⟩
            rw [wo_succ]
            exact (alj.imp fun _ _ h => (LotH.on h (.same s16)).on (.same s7)).app (al6.imp fun _ _ h => LotH.on h (.same s7))
          by_cases c : leftN ls e j = []
          · rw [decide_eq_true c]
            refine iteF ⟨by show 0 ≤ sizeLine; decide, fun q1 kq1 => fin q1 [] _ (same_new kq1 _) upd_same (Nat.zero_le _) (by unfold oneL; rw [if_pos c]; exact .nil) _ fun c2 H7 iv => ⟨c2, _, _, _, _, _, rfl, iv⟩⟩
          · rw [decide_eq_false c]
            refine iteT ⟨_, rfl, by show 1 ≤ sizeLine; decide, fun q1 kq1 => fin q1 [.ref r] _ (same_new kq1 _) upd_same (Nat.le_refl _) (by
              unfold oneL; rw [if_neg c]
              exact .cons ⟨r, rfl, (same_new kq1 _) _ _ (s5 _ _ e4)⟩ .nil) _ fun c2 H7 iv => ⟨c2, _, _, _, _, _, rfl, iv⟩⟩
      · rintro σ H1 h
        rw [ln] at h
        exact h
    · rintro σ H1 ⟨F, o4, o5, o6, o7, o8, rfl, s1, jts, eF, alj⟩
      exact ⟨_, rfl, q F jts H1 s1 eF alj⟩
end
end K6

/-! a name that holds a def which may raise; calls by keywords of such; the law itself, its code object known -/
namespace Lc
open PySem PySem.Spec PyProof.Rows L2 Hb LamX
/-- the def at f, one that may raise, keeps sp -/
structure DfX (P : Program) (w : World) (K : PySem.W.Frag) (mg : Str → Option Value) (base : Heap) (lv : Nat) (f : Addr) (sp : Sp) : Prop where
  ex : ∃ (ps : List Str) (fd : FuncData), FnOk P w K mg base (L2.CX P w) lv f fd ps sp ∧ PySem.W.keepIn K (.ref f) = true ∧ Binds K fd ps []
theorem DfX.of {P : Program} {w : World} {K : PySem.W.Frag} {mg : Str → Option Value} {base : Heap} {j lv : Nat} {f : Addr} {fd : FuncData} {ps : List Str} {sp sp' : Sp} (F : FnOk P w K mg base (L2.CX P w) j f fd ps sp') (kp : PySem.W.keepIn K (.ref f) = true) (b : Binds K fd ps []) (h : j ≤ lv) (le : ∀ vs H Q E, sp vs H Q E → sp' vs H Q E) : DfX P w K mg base lv f sp :=
  ⟨ps, fd, ⟨fun vs H Q E z => F.len vs H Q E (le _ _ _ _ z), fun A o s H args us vs Q E r e0 bi va z => F.run A o s H args us vs Q E (r.mono h) e0 bi va (le _ _ _ _ z)⟩, kp, b⟩
def tVarX (P : Program) (w : World) (K : PySem.W.Frag) (mg : Str → Option Value) (base : Heap) (lv i : Nat) (sp : Sp) (E : L2.St → XK) (ta : TA) : TE := fun σ H Q => ∃ f, σ[i]? = some (some (.ref f)) ∧ DfX P w K mg base lv f sp ∧ ta σ H fun vs H1 => sp vs H1 Q (E σ)
theorem pe_varX {X : Cx} {a : Str} {lv i : Nat} {sp : Sp} {E : L2.St → XK} {p pos : Pos} {e : Expr} {es : List Expr} {ta : TA} (nm : X.N[i]? = some a) (vis : Vis X.env.scope a) (hr : Room lv X.A) (hx : ∀ σ, PassesAt (L2.CX X.prog X.w) X σ (E σ)) (ha : PA X (e :: es) ta)
    (d1 : (a == ("__debug__" : Str)) = false := by decide) (d2 : (a == ("__classdict__" : Str)) = false := by decide)
    (se : starEach (e :: es) X.env = (false, eval e X.env) :: starEach es X.env := by rfl) (sp' : (backTo pos (starEach es X.env)).any (·.1) = false := by rfl) :
    PE X (.Call (.Name a p) (e :: es) [] pos) (tVarX X.prog X.w X.K X.mg X.base lv i sp E ta) := by
  refine ⟨fun pins s σ H Q I h => ?_⟩
  obtain ⟨f, hf, ⟨ps, fd, F, kp, b⟩, h⟩ := h
  refine wpAny_Call_Name_kw (thn ((pe_var (pos := p) (i := i) nm vis d1 d2).run pins s σ H (fun v H1 => v = .ref f ∧ H1 = H) I ⟨.ref f, hf, rfl, rfl⟩) fun u s1 ⟨v, H1, I1, r1, ev, eH⟩ => ?_)
  subst ev
  rw [eH] at I1
  obtain rfl : u = Value.ref f := r1
  refine PySem.W.callWith_K (h₀ := X.base) I1.ok.mod.kin kp (thn (ha.run pos pins s1 σ H _ I1 h) fun us s2 ⟨vs, H2, I2, r2, q⟩ => ⟨I2.kIn, ?_⟩) se sp'
  exact run_fnS F hr b (hx σ) I2 r2 q
/-- f(k = v, ..), a def that may raise -/
structure CkX (P : Program) (w : World) (K : PySem.W.Frag) (mg : Str → Option Value) (base : Heap) (x : Str) (ps : List Str) (ks : List Str) (gV : List V → List V → List V) (lv : Nat) (sp : Sp) : Prop where
  ex : ∃ (f : Addr) (fd : FuncData) (g : List Value → List Value → List Value), FnOk P w K mg base (L2.CX P w) lv f fd ps sp ∧ mg x = some (.ref f) ∧ PySem.W.keepIn K (.ref f) = true ∧ KBn K fd ps 0 ks g gV
theorem pe_useKX {X : Cx} {ps ks : List Str} {gV : List V → List V → List V} {lv : Nat} {sp : Sp} {x : Str} {p pos : Pos} {tk : TA} {kws : List Keyword} {E : XK} (C : CkX X.prog X.w X.K X.mg X.base x ps ks gV lv sp) (hr : Room lv X.A) (hx : Passes (L2.CX X.prog X.w) X E) (gl : Gl X x) (hkw : PK X kws tk)
    (hall : (backToKw pos (keywordEach kws X.env)).all (·.1.isSome) = true := by rfl) (hks : (backToKw pos (keywordEach kws X.env)).filterMap (·.1) = ks := by rfl)
    (db : (x == ("__debug__" : Str)) = false := by decide) (spl : ((backTo pos (starEach [] X.env)).any (·.1) || (backToKw pos (keywordEach kws X.env)).any (·.1.isNone)) = false := by rfl) :
    PE X (.Call (.Name x p) [] kws pos) (tCallN 0 ks.length sp gV E tNil tk) := by
  obtain ⟨f, fd, g, F, mgx, kp, b⟩ := C.ex
  refine ⟨fun pins s σ H Q I h => wpAny_Call_Name_kw (ld_glob I gl mgx ?_ db)⟩
  refine PySem.W.callWith_KW0 (h₀ := X.base) I.ok.mod.kin kp hall ?_ spl
  refine thn (hkw.run pos pins s σ H _ I h) fun ws s2 ⟨zs, H2, I2, rz, l1, l2, q2⟩ => ⟨I2.kIn, ?_⟩
  rw [hks]
  exact run_fnN (us := []) (vs := []) F hr b hx I2 .nil rz rfl l2 q2
/-- a def by its body, its code object at c -/
theorem okC {P : Program} {w : World} {K : PySem.W.Frag} {mg : Str → Option Value} {base : Heap} {x qual : Str} {st : Stmt} {f c : Addr} {oc : Value} {od an : Option Addr} {osl : Array (Option Value)} {kV doc pm ct : Value} {N ps : List Str} {k : Nat} {sp : Sp}
    (lk : K.lookup f = some ⟨oc, od, .func (PySem.W.fnOf x qual (defArgs st) (defBody st) (defScope st) .none kV doc pm an (.ref c) ct), osl⟩) (cd : PySem.W.codeIn K (.ref c) qual = true) (S : FnScope N ps (defScope st)) (len : ∀ vs H Q E, sp vs H Q E → vs.length = ps.length)
    (hbody : ∀ (A : Around) (outer : List Env) (s : Shared) (H : Hp) (vs : List V) (Q : VK) (E : XK), Room k (A.deeper (envOfC qual (defScope st) s.heap.objs.size f (.ref c))) → sp vs H Q E →
      ∃ t, PSs (cxOf CX0 P w K mg base N qual (defScope st) f (.ref c) A outer s H E).nox (defBody st) t ∧ t { nx := fun _ H' => Q .non H', rt := Q } (start N vs) H) :
    FnOk P w K mg base CX0 (k + 1) f (PySem.W.fnOf x qual (defArgs st) (defBody st) (defScope st) .none kV doc pm an (.ref c) ct) ps sp := by
  refine fn_of lk cd S len fun A outer s H vs Q E hr hsp => ?_
  obtain ⟨t, h, q⟩ := hbody A outer s H vs Q E hr hsp
  exact ⟨t, h.nox, q⟩
end Lc

/-! a lambda with parameters that captures nothing: made, kept in a tuple, called by a name -/
namespace Lp
open PySem PySem.Spec PyProof.Rows L2 Hb LamX Lc
/-- the lambda that stands at f, its code object at c -/
def LamO (q : Str) (prm : Arguments) (bod : Expr) (sc : Scope) (c f : Addr) : HO := .ext fun h => ∃ pm ct : Value, h.get? f = some (PySem.W.kla_obj "<lambda>" q prm bod sc [] pm c ct)
theorem clo_nil {cells : List (Str × Addr)} : ∀ {ns : List (Str × NameKind)} {acc : List (Str × Addr)}, (∀ y ∈ ns, y.2 ≠ .free) → cloFrom cells ns acc = acc
  | [], _, _ => rfl
  | (n, k) :: r, acc, h => by
    have hk : (k == NameKind.free) = false := by
      have := h (n, k) (.head _)
      cases k <;> first | rfl | exact absurd rfl this
    show (if (k == NameKind.free) = true then _ else cloFrom cells r acc) = acc
    rw [hk, if_neg (by decide)]
    exact clo_nil fun y m => h y (.tail _ m)
section
variable {X : Cx} {pins : List (Addr × Obj)} {σ : L2.St} {H : Hp} {s : Shared}
theorem laid_lam {q : Str} {prm : Arguments} {bod : Expr} {sc : Scope} {pm ct : Value} {c : Addr} {h' : Heap} {t t' : Nat} (I : Inv X pins σ H { s with heap := h', toks := t }) :
    Inv X pins σ (upd H h'.objs.size (LamO q prm bod sc c h'.objs.size)) { s with heap := h'.push (PySem.W.kla_obj "<lambda>" q prm bod sc [] pm c ct), toks := t' } := by
  have at_ : (h'.push (PySem.W.kla_obj "<lambda>" q prm bod sc [] pm c ct)).get? h'.objs.size = some (PySem.W.kla_obj "<lambda>" q prm bod sc [] pm c ct) := Heap.get?_push_size _ rfl
  exact I.laid (t' := t') (fun b u e => Heap.get?_push_of_some _ e) (Nat.le_refl _) (show ObjOk _ _ _ _ _ (LamO q prm bod sc c h'.objs.size) from ⟨⟨pm, ct, at_⟩, ⟨_, at_⟩, fun h1 h2 ⟨a, b, e⟩ st => ⟨a, b, st _ e⟩⟩)
theorem make_lam {T : List (Addr × Str)} {c P : Addr} {prm : Arguments} {bod : Expr} {sc : Scope} {pos : Pos} {E Q : Value → Shared → Prop} (I : Inv X pins σ H s) (tb : TabB X.base X.mg c P) (ec : X.env.code = .ref c)
    (inT : (P, X.env.qual ++ "<lambda>") ∈ T) (one : ∀ y ∈ T, y.1 = P → y.2 = X.env.qual ++ "<lambda>") (tt : Tabs T H) (nd : defaultsOf prm X.env = ([], [])) (nf : ∀ y ∈ sc.names, y.2 ≠ .free)
    (k : ∀ (f c1 : Addr) (H1 : Hp) (s1 : Shared), Inv X pins σ (upd H1 f (LamO (X.env.qual ++ "<lambda>") prm bod sc c1 f)) s1 → ExtN H H1 → Tabs T H1 → H1 f = none → H1 c1 = some (CodeO c1 (X.env.qual ++ "<lambda>")) → Q (.ref f) s1) :
    wpAny (model X.prog X.w) X.A (eval (.Lambda prm bod sc pos) X.env) Q E s := by
  obtain ⟨ps, tP, tok, tall⟩ := tt _ inT
  have clo : closureFor sc X.env = pure [] := by
    have z := closure_ok (scope := sc) (env := X.env) fun y m e => absurd e (nf y m)
    rwa [clo_nil nf] at z
  have bts : s.heap.BuiltinsAt X.mg P := tb.bm.keeps I.bk
  have tP0 : s.heap.get? P = some { cls := .none, data := .fields ps } := I.hok P _ tP
  refine PySem.W.kla_eval nd ?_
  rcases found : codeAmong pos ps.toList with _ | cv
  · refine PySem.W.kla_makeFunction (clos := []) (mg := X.mg) (c := c) (P := P) (ps := ps) clo I.ok.glob (I.mod.glob.keeps I.bk) ec (tb.code.keeps I.bk) tP0 tok found tb.gP bts fun c1 ct h1 tk ext new lt rec tab => ?_
    obtain ⟨c2, oc, fs, t, eq2, goc, dat, at1⟩ := rec
    cases eq2
    have nc : H c1 = none := I.hok.fresh new
    have J := inv_table (t' := tk) (more := #[rawInt pos.line, rawInt pos.col, .ref c1]) I tP ext tab new ⟨oc, fs, t, goc, dat, at1⟩
    have xt : ExtN H (upd (upd H P (.tbl (ps ++ #[rawInt pos.line, rawInt pos.col, .ref c1]))) c1 (CodeO c1 (X.env.qual ++ "<lambda>"))) := fun b o e nt => by
      have n1 : b ≠ P := fun z => by rw [z, tP] at e; exact nt ps (Option.some.inj e).symm
      rw [upd_ne (ne_of_none e nc), upd_ne n1]; exact e
    have tl : (ps ++ #[rawInt pos.line, rawInt pos.col, .ref c1]).toList = ps.toList ++ [rawInt pos.line, rawInt pos.col, .ref c1] := Array.toList_append
    have sz : s.heap.objs.size ≤ h1.objs.size := Nat.le_trans new (Nat.le_of_lt lt)
    refine k h1.objs.size c1 _ _ (laid_lam J) xt (fun y m => ?_) ?_ upd_same
    · rcases Decidable.em (y.1 = P) with e | e
      · rw [one y m e, e]
        refine ⟨_, by rw [upd_ne (ne_of_none tP nc), upd_same], by rw [tl]; exact PySem.TriplesOk_snoc _ _ _ _ tok, fun p1 cv e1 => ?_⟩
        rw [tl] at e1
        rcases among_app _ tok e1 with z | z
        · obtain ⟨c0, a1, a2⟩ := tall p1 cv z
          exact ⟨c0, a1, xt _ _ a2 codeO_ne⟩
        · exact ⟨c1, z, upd_same⟩
      · obtain ⟨qs, a1, a2, a3⟩ := tt y m
        refine ⟨qs, by rw [upd_ne (ne_of_none a1 nc), upd_ne e]; exact a1, a2, fun p1 cv e1 => ?_⟩
        obtain ⟨c0, b1, b2⟩ := a3 p1 cv e1
        exact ⟨c0, b1, xt _ _ b2 codeO_ne⟩
    · rw [upd_ne (Nat.ne_of_gt lt), upd_ne (Nat.ne_of_gt (Nat.lt_of_lt_of_le (Heap.lt_size tP0) sz))]
      exact I.hok.fresh sz
  · obtain ⟨c1, rfl, co⟩ := tall pos cv found
    refine PySem.W.kla_makeFunctionHit (clos := []) (mg := X.mg) (c := c) (P := P) (ps := ps) clo I.ok.glob (I.mod.glob.keeps I.bk) ec (tb.code.keeps I.bk) tP0 tok found bts fun ct h1 tk ext sz => ?_
    have J : Inv X pins σ H { s with heap := h1, toks := tk } := I.kept ext
    exact k h1.objs.size c1 H _ (laid_lam J) (ExtN.refl H) tt (I.hok.fresh sz) co
/-- lambda a, b, ..: e -/
def tLamP (T : List (Addr × Str)) (q : Str) (prm : Arguments) (bod : Expr) (sc : Scope) : TE := fun _ H Q => Tabs T H ∧ ∀ f c1 H1, ExtN H H1 → Tabs T H1 → H1 f = none → H1 c1 = some (CodeO c1 q) → Q (.ref f) (upd H1 f (LamO q prm bod sc c1 f))
theorem pe_lamP {T : List (Addr × Str)} {c P : Addr} {prm : Arguments} {bod : Expr} {sc : Scope} {pos : Pos} (tb : TabB X.base X.mg c P) (ec : X.env.code = .ref c) (inT : (P, X.env.qual ++ "<lambda>") ∈ T) (one : ∀ y ∈ T, y.1 = P → y.2 = X.env.qual ++ "<lambda>")
    (nd : defaultsOf prm X.env = ([], [])) (nf : ∀ y ∈ sc.names, y.2 ≠ .free) : PE X (.Lambda prm bod sc pos) (tLamP T (X.env.qual ++ "<lambda>") prm bod sc) :=
  ⟨fun pins s σ H Q I h => make_lam I tb ec inT one h.1 nd nf fun f c1 H1 s1 J xt t1 n1 e1 => ⟨.ref f, _, J, rfl, h.2 f c1 H1 xt t1 n1 e1⟩⟩
end
/-- what such a lambda keeps, wherever it stands -/
structure LmOk (P : Program) (w : World) (K : PySem.W.Frag) (mg : Str → Option Value) (base : Heap) (CX : CXT) (lv : Nat) (q : Str) (prm : Arguments) (bod : Expr) (sc : Scope) (N ps : List Str) (sp : Sp) : Prop where
  S : FnScope N ps sc
  len : ∀ vs H Q E, sp vs H Q E → vs.length = ps.length
  bind : ∀ (us : List Value) (pm cv ct : Value), us.length = ps.length → bindArgs (PySem.W.kla_fn "<lambda>" q prm bod sc [] pm cv ct) ⟨us, []⟩ = pure (ps.zip us)
  run : ∀ (f c : Addr) (A : Around) (outer : List Env) (s : Shared) (H : Hp) (vs : List V) (Q : VK) (E : XK), Room lv (A.deeper (envOfC q sc s.heap.objs.size f (.ref c))) → sp vs H Q E → ∃ te, PE (cxOf CX P w K mg base N q sc f (.ref c) A outer s H E) bod te ∧ te (L2.start N vs) H Q
section
variable {P : Program} {w : World} {K : PySem.W.Frag} {mg : Str → Option Value} {base : Heap} {CX : CXT} {lv : Nat} {q : Str} {prm : Arguments} {bod : Expr} {sc : Scope} {N ps : List Str} {sp : Sp}
theorem run_lam (L : LmOk P w K mg base CX lv q prm bod sc N ps sp) {f c : Addr} {A : Around} {outer : List Env} {s : Shared} {H : Hp} {us : List Value} {vs : List V} {Q : VK} {E : XK} (hr : Room (lv + 1) A) (e0 : Env0 P w K mg base A outer s H) (ef : H f = some (LamO q prm bod sc c f)) (eco : H c = some (CodeO c q)) (r : Vals vs us) (z : sp vs H Q E) :
    codeAny (model P w) A (.call (.ref f) ⟨us, []⟩) (CR CX outer P w H s Q E) s := by
  obtain ⟨⟨pm, ct, gf⟩, _, _⟩ := e0.hok f _ ef
  obtain ⟨⟨oc, fs, t, goc, dat, at1⟩, _, _⟩ := e0.hok c _ eco
  have ln := L.len _ _ _ _ z
  have lim : s.heap.NoLimit := e0.mod.nolimit.keeps fun b o e => (e0.bs b o e).1
  have kinds : ∀ y ∈ ps.zip us, sc.names.lookup y.1 = some .local ∨ (sc.names.lookup y.1 = some .cell ∧ ((cellsFrom (s.heap.objs.size + 1) sc.names []).lookup y.1).isSome = true) := fun ⟨n, v⟩ m => by
    rcases L.S.par n (List.of_mem_zip m).1 with e | e
    · exact .inl e
    · exact .inr ⟨e, PySem.W.cellsFrom_some _ _ _ (.inl e)⟩
  refine PySem.W.kla_callFunE hr.depth gf rfl L.S.co L.S.gen rfl ⟨c, oc, fs, t, rfl, goc, dat, at1⟩ ?_
  rw [L.bind us _ _ _ (by rw [← r.length]; exact ln)]
  refine wpAny_pure (wpAny_newFunctionEnv_cells L.S.kind kinds fun env he s1 x => ?_)
  subst he
  refine ⟨lim.keeps x.toInCall.keep, PySem.W.kla_codeExpr ?_⟩
  obtain ⟨te, pe, hq⟩ := L.run f c A outer s H vs Q E (hr.deeper _) z
  have I : Inv (cxOf CX P w K mg base N q sc f (.ref c) A outer s H E) [] (L2.start N vs) H s1 := inv_start L.S hr.hd e0 ln r x
  refine wpAny_mono (pe.run [] s1 _ H Q I hq) (fun v s2 ⟨y, H2, J, rv, q2⟩ => ?_) fun _ _ e => e
  exact ⟨y, H2, J.os, J.bare, J.base, J.hok, rv, q2⟩
end
/-- the value at f may be called: a def of the text, or a lambda -/
def tVarL (P : Program) (w : World) (K : PySem.W.Frag) (mg : Str → Option Value) (base : Heap) (lv i : Nat) (sp : Sp) (E : L2.St → XK) (ta : TA) : TE := fun σ H Q => ∃ f, σ[i]? = some (some (.ref f)) ∧
  ((DfX P w K mg base lv f sp ∧ ta σ H fun vs H1 => sp vs H1 Q (E σ)) ∨
   (∃ q prm bod sc c N ps j, LmOk P w K mg base (L2.CX P w) j q prm bod sc N ps sp ∧ j + 1 ≤ lv ∧ H f = some (LamO q prm bod sc c f) ∧ ta σ H fun vs H1 => H1 f = some (LamO q prm bod sc c f) ∧ H1 c = some (CodeO c q) ∧ sp vs H1 Q (E σ)))
theorem fn_at {X : Cx} {pins : List (Addr × Obj)} {σ : L2.St} {H : Hp} {s : Shared} {q : Str} {prm : Arguments} {bod : Expr} {sc : Scope} {c f : Addr} (I : Inv X pins σ H s) (e : H f = some (LamO q prm bod sc c f)) : PySem.W.FnAt f s.heap := by
  obtain ⟨⟨pm, ct, g⟩, _, _⟩ := I.hok f _ e
  exact ⟨_, _, _, _, g⟩
theorem pe_varL {X : Cx} {a : Str} {lv i : Nat} {sp : Sp} {E : L2.St → XK} {p pos : Pos} {e : Expr} {es : List Expr} {ta : TA} (nm : X.N[i]? = some a) (vis : Vis X.env.scope a) (hr : Room lv X.A) (hx : ∀ σ, PassesAt (L2.CX X.prog X.w) X σ (E σ)) (ha : PA X (e :: es) ta)
    (d1 : (a == ("__debug__" : Str)) = false := by decide) (d2 : (a == ("__classdict__" : Str)) = false := by decide)
    (se : starEach (e :: es) X.env = (false, eval e X.env) :: starEach es X.env := by rfl) (spl : (backTo pos (starEach es X.env)).any (·.1) = false := by rfl) :
    PE X (.Call (.Name a p) (e :: es) [] pos) (tVarL X.prog X.w X.K X.mg X.base lv i sp E ta) := by
  refine ⟨fun pins s σ H Q I h => ?_⟩
  obtain ⟨f, ef, h⟩ := h
  rcases h with ⟨D, h⟩ | ⟨q, prm, bod, sc, c, N, ps, j, L, jl, eo, h⟩
  · exact (pe_varX (p := p) nm vis hr hx ha d1 d2 se spl).run pins s σ H Q I ⟨f, ef, D, h⟩
  · refine wpAny_Call_Name_kw (thn ((pe_var (pos := p) (i := i) nm vis d1 d2).run pins s σ H (fun v H1 => v = .ref f ∧ H1 = H) I ⟨.ref f, ef, rfl, rfl⟩) fun u s1 ⟨v, H1, I1, r1, ev, eH⟩ => ?_)
    subst ev eH
    obtain rfl : u = Value.ref f := r1
    refine PySem.W.callWith_F (fn_at I1 eo) (thn (ha.run pos pins s1 σ H1 _ I1 h) fun us s2 ⟨vs, H2, I2, r2, o2, co2, q2⟩ => ⟨fn_at I2 o2, ?_⟩) se spl
    refine wpAny_call (codeAny_mono (run_lam L (hr.mono jl) I2.env0 o2 co2 r2 q2) fun r s3 hq => ?_)
    cases r with
    | error er => exact hx σ pins H2 s2 er s3 I2 hq
    | ok fl =>
      cases fl with
      | ret u => exact I2.after hq
      | next => exact False.elim hq
      | brk => exact False.elim hq
      | cont => exact False.elim hq
end Lp

/-! closures with parameters: made, handed to a def, called there. The def's promise is known over every greater base: the maker's cells lie in it. -/
namespace Cq
open PySem PySem.Spec PyProof.Rows L2 Hb LamX Lc Lp
/-! ### greater bases -/
structure LeB (K : PySem.W.Frag) (mg : Str → Option Value) (b b' : Heap) : Prop where
  mod : Mod K mg b
  get : ∀ a o, b.get? a = some o → b'.get? a = some o
  size : b.objs.size ≤ b'.objs.size
theorem LeB.refl {K : PySem.W.Frag} {mg : Str → Option Value} {b : Heap} (M : Mod K mg b) : LeB K mg b b := ⟨M, fun _ _ h => h, Nat.le_refl _⟩
section
variable {P : Program} {w : World} {K : PySem.W.Frag} {mg : Str → Option Value} {base base' : Heap}
theorem env0_down {A : Around} {outer : List Env} {s : Shared} {H : Hp} (le : LeB K mg base base') (e : Env0 P w K mg base' A outer s H) : Env0 P w K mg base A outer s H :=
  ⟨e.frames, le.mod, fun b o h => e.bs b o (le.get b o h), Nat.le_trans le.size e.bsz, funFrames_none e.funs (fun L hL => by
    cases q : base.get? L with
    | none => rfl
    | some o =>
      have := (e.funs.mem hL).1
      rw [le.get L o q] at this
      cases this), e.frf, e.hok, e.bare⟩
theorem FnOk.up {CX : CXT} {k : Nat} {f : Addr} {fd : FuncData} {ps : List Str} {sp : Sp} (F : FnOk P w K mg base CX k f fd ps sp) (le : LeB K mg base base') : FnOk P w K mg base' CX k f fd ps sp :=
  ⟨F.len, fun A outer s H args us vs Q E hr e0 => F.run A outer s H args us vs Q E hr (env0_down le e0)⟩
/-! ### the heap without what is tracked and without the frames -/
def hidF (h : Heap) (H : Hp) (fs : List Addr) : Heap := PySem.W.hideAll (hidT h H) fs
theorem hidF_get {h : Heap} {H : Hp} {fs : List Addr} {b : Addr} {o : Obj} (e : h.get? b = some o) (n : H b = none) (m : b ∉ fs) : (hidF h H fs).get? b = some o :=
  PySem.W.hideAll_get _ (hidT_get e n) m
theorem of_hidF {h : Heap} {H : Hp} {fs : List Addr} {b : Addr} {o : Obj} (e : (hidF h H fs).get? b = some o) : h.get? b = some o ∧ H b = none ∧ b ∉ fs := by
  obtain ⟨e1, e2⟩ := of_hidT (PySem.W.of_hideAll fs e)
  refine ⟨e1, e2, fun m => ?_⟩
  have z : (hidF h H fs).get? b = none := PySem.W.hideAll_none fs m
  rw [z] at e; cases e
theorem hidF_size (h : Heap) (H : Hp) (fs : List Addr) : (hidF h H fs).objs.size = h.objs.size := (PySem.W.hideAll_size _ _).trans (hidT_size _ _)
end
section
variable {X : Cx} {pins : List (Addr × Obj)} {σ : L2.St} {H : Hp} {s : Shared}
theorem le_hid (I : Inv X pins σ H s) : LeB X.K X.mg X.base (hidF s.heap H (frs X.stack)) :=
  ⟨I.mod, fun a o e => hidF_get (I.bs a o e).1 (I.bs a o e).2 fun m => by
    have := (I.stack.mem m).1
    rw [e] at this; exact (nomatch this), by rw [hidF_size]; exact Nat.le_trans I.ok.bsz I.sz⟩
theorem env0_hid (I : Inv X pins σ H s) : Env0 X.prog X.w X.K X.mg (hidF s.heap H (frs X.stack)) X.A X.stack s H := by
  have e := I.env0
  have le := le_hid I
  refine ⟨e.frames, ?_, fun b o h => ⟨(of_hidF h).1, (of_hidF h).2.1⟩, Nat.le_of_eq (hidF_size _ _ _), funFrames_none e.funs fun L hL => ?_, e.frf, e.hok, e.bare⟩
  · have M := I.mod
    have ns : ∀ {b : Addr} {m : Str → Option Value}, X.base.Ns b m → (hidF s.heap H (frs X.stack)).Ns b m := fun {b m} ⟨o, es, ep, e, d, r⟩ => ⟨o, es, ep, le.get _ _ e, d, r⟩
    exact ⟨M.kin.keeps le.get, ns M.glob, let ⟨mb, h1, h2⟩ := M.blt; ⟨mb, ns h1, h2⟩, M.nolimit.keeps le.get⟩
  · exact PySem.W.hideAll_none _ hL
/-- what X's cells hold, in a base -/
structure CelB (X : Cx) (σ : L2.St) (b : Heap) : Prop where
  inj : ∀ x y c, X.env.cells.lookup x = some c → X.env.cells.lookup y = some c → x = y
  all : ∀ x c, X.env.cells.lookup x = some c → ∃ o v, b.get? c = some o ∧ o.data = .cell v
  has : ∀ x, (X.env.scope.names.lookup x = some .cell ∨ X.env.scope.names.lookup x = some .free) → ∃ c, X.env.cells.lookup x = some c
  val : ∀ (i : Nat) x v, X.N[i]? = some x → σ[i]? = some (some v) → (X.env.scope.names.lookup x = some .cell ∨ X.env.scope.names.lookup x = some .free) → ∃ c o u, X.env.cells.lookup x = some c ∧ b.get? c = some o ∧ o.data = .cell (some u) ∧ RelV v u
theorem celB_hid (I : Inv X pins σ H s) (hfn : ∀ x, X.fn x = true) : CelB X σ (hidF s.heap H (frs X.stack)) := by
  have nf : ∀ x c, X.env.cells.lookup x = some c → c ∉ frs X.stack := fun x c e m => by
    rcases List.mem_cons.mp (I.stkSub c m) with z | z
    · exact I.cne x c e z
    · obtain ⟨_, o, ho, _⟩ := I.ok.funs.mem z
      exact absurd (Nat.lt_of_lt_of_le (Heap.lt_size ho) (I.ok.cab x c (hfn x) e)) (Nat.lt_irrefl _)
  refine ⟨I.ok.inj, fun x c e => ?_, I.ok.has, fun i x v h1 h2 h3 => ?_⟩
  · obtain ⟨v, o, ho, hd⟩ := I.cell x c e
    exact ⟨o, v, hidF_get ho (I.freeC x c e) (nf x c e), hd⟩
  · obtain ⟨m, hn, hl⟩ := I.loc
    obtain ⟨u, r, q⟩ := hl i x v h1 h2 (h3.elim (fun k => .inr (.inl k)) fun k => .inr (.inr k))
    rcases q with ⟨k, _⟩ | ⟨_, c, e, o, ho, hd⟩
    · have k : X.env.scope.names.lookup x = some .local := k
      rcases h3 with z | z <;> rw [z] at k <;> cases k
    · exact ⟨c, o, u, e, hidF_get ho (I.freeC x c e) (nf x c e), hd, r⟩
end
/-! ### the closure -/
def CloO (q : Str) (prm : Arguments) (bod : Expr) (sc : Scope) (cl : List (Str × Addr)) (c f : Addr) : HO := .ext fun h => ∃ pm ct : Value, h.get? f = some (PySem.W.kla_obj "<lambda>" q prm bod sc cl pm c ct)
section
variable {X : Cx} {pins : List (Addr × Obj)} {σ : L2.St} {H : Hp} {s : Shared}
theorem laid_clo {q : Str} {prm : Arguments} {bod : Expr} {sc : Scope} {cl : List (Str × Addr)} {pm ct : Value} {c : Addr} {h' : Heap} {t t' : Nat} (I : Inv X pins σ H { s with heap := h', toks := t }) :
    Inv X pins σ (upd H h'.objs.size (CloO q prm bod sc cl c h'.objs.size)) { s with heap := h'.push (PySem.W.kla_obj "<lambda>" q prm bod sc cl pm c ct), toks := t' } := by
  have at_ : (h'.push (PySem.W.kla_obj "<lambda>" q prm bod sc cl pm c ct)).get? h'.objs.size = some (PySem.W.kla_obj "<lambda>" q prm bod sc cl pm c ct) := Heap.get?_push_size _ rfl
  exact I.laid (t' := t') (fun b u e => Heap.get?_push_of_some _ e) (Nat.le_refl _) (show ObjOk _ _ _ _ _ (CloO q prm bod sc cl c h'.objs.size) from ⟨⟨pm, ct, at_⟩, ⟨_, at_⟩, fun h1 h2 ⟨a, b, e⟩ st => ⟨a, b, st _ e⟩⟩)
theorem make_clo {T : List (Addr × Str)} {c P : Addr} {prm : Arguments} {bod : Expr} {sc : Scope} {pos : Pos} {E Q : Value → Shared → Prop} (I : Inv X pins σ H s) (tb : TabB X.base X.mg c P) (ec : X.env.code = .ref c)
    (inT : (P, X.env.qual ++ "<lambda>") ∈ T) (one : ∀ y ∈ T, y.1 = P → y.2 = X.env.qual ++ "<lambda>") (tt : Tabs T H) (nd : defaultsOf prm X.env = ([], [])) (nf : ∀ y ∈ sc.names, y.2 = .free → ∃ c, X.env.cells.lookup y.1 = some c)
    (k : ∀ (f c1 : Addr) (H1 : Hp) (s1 : Shared), Inv X pins σ (upd H1 f (CloO (X.env.qual ++ "<lambda>") prm bod sc (cloFrom X.env.cells sc.names []) c1 f)) s1 → ExtN H H1 → Tabs T H1 → H1 f = none → H1 c1 = some (CodeO c1 (X.env.qual ++ "<lambda>")) → Q (.ref f) s1) :
    wpAny (model X.prog X.w) X.A (eval (.Lambda prm bod sc pos) X.env) Q E s := by
  obtain ⟨ps, tP, tok, tall⟩ := tt _ inT
  have clo : closureFor sc X.env = pure (cloFrom X.env.cells sc.names []) := closure_ok nf
  have bts : s.heap.BuiltinsAt X.mg P := tb.bm.keeps I.bk
  have tP0 : s.heap.get? P = some { cls := .none, data := .fields ps } := I.hok P _ tP
  refine PySem.W.kla_eval nd ?_
  rcases found : codeAmong pos ps.toList with _ | cv
  · refine PySem.W.kla_makeFunction (clos := cloFrom X.env.cells sc.names []) (mg := X.mg) (c := c) (P := P) (ps := ps) clo I.ok.glob (I.mod.glob.keeps I.bk) ec (tb.code.keeps I.bk) tP0 tok found tb.gP bts fun c1 ct h1 tk ext new lt rec tab => ?_
    obtain ⟨c2, oc, fs, t, eq2, goc, dat, at1⟩ := rec
    cases eq2
    have nc : H c1 = none := I.hok.fresh new
    have J := inv_table (t' := tk) (more := #[rawInt pos.line, rawInt pos.col, .ref c1]) I tP ext tab new ⟨oc, fs, t, goc, dat, at1⟩
    have xt : ExtN H (upd (upd H P (.tbl (ps ++ #[rawInt pos.line, rawInt pos.col, .ref c1]))) c1 (CodeO c1 (X.env.qual ++ "<lambda>"))) := fun b o e nt => by
      have n1 : b ≠ P := fun z => by rw [z, tP] at e; exact nt ps (Option.some.inj e).symm
      rw [upd_ne (ne_of_none e nc), upd_ne n1]; exact e
    have tl : (ps ++ #[rawInt pos.line, rawInt pos.col, .ref c1]).toList = ps.toList ++ [rawInt pos.line, rawInt pos.col, .ref c1] := Array.toList_append
    have sz : s.heap.objs.size ≤ h1.objs.size := Nat.le_trans new (Nat.le_of_lt lt)
    refine k h1.objs.size c1 _ _ (laid_clo J) xt (fun y m => ?_) ?_ upd_same
    · rcases Decidable.em (y.1 = P) with e | e
      · rw [one y m e, e]
        refine ⟨_, by rw [upd_ne (ne_of_none tP nc), upd_same], by rw [tl]; exact PySem.TriplesOk_snoc _ _ _ _ tok, fun p1 cv e1 => ?_⟩
        rw [tl] at e1
        rcases among_app _ tok e1 with z | z
        · obtain ⟨c0, a1, a2⟩ := tall p1 cv z
          exact ⟨c0, a1, xt _ _ a2 codeO_ne⟩
        · exact ⟨c1, z, upd_same⟩
      · obtain ⟨qs, a1, a2, a3⟩ := tt y m
        refine ⟨qs, by rw [upd_ne (ne_of_none a1 nc), upd_ne e]; exact a1, a2, fun p1 cv e1 => ?_⟩
        obtain ⟨c0, b1, b2⟩ := a3 p1 cv e1
        exact ⟨c0, b1, xt _ _ b2 codeO_ne⟩
    · rw [upd_ne (Nat.ne_of_gt lt), upd_ne (Nat.ne_of_gt (Nat.lt_of_lt_of_le (Heap.lt_size tP0) sz))]
      exact I.hok.fresh sz
  · obtain ⟨c1, rfl, co⟩ := tall pos cv found
    refine PySem.W.kla_makeFunctionHit (clos := cloFrom X.env.cells sc.names []) (mg := X.mg) (c := c) (P := P) (ps := ps) clo I.ok.glob (I.mod.glob.keeps I.bk) ec (tb.code.keeps I.bk) tP0 tok found bts fun ct h1 tk ext sz => ?_
    have J : Inv X pins σ H { s with heap := h1, toks := tk } := I.kept ext
    exact k h1.objs.size c1 H _ (laid_clo J) (ExtN.refl H) tt (I.hok.fresh sz) co
/-- lambda a, b, ..: e, which captures names of X -/
def tClo (X : Cx) (T : List (Addr × Str)) (prm : Arguments) (bod : Expr) (sc : Scope) : TE := fun _ H Q => Tabs T H ∧ ∀ f c1 H1, ExtN H H1 → Tabs T H1 → H1 f = none → H1 c1 = some (CodeO c1 (X.env.qual ++ "<lambda>")) → Q (.ref f) (upd H1 f (CloO (X.env.qual ++ "<lambda>") prm bod sc (cloFrom X.env.cells sc.names []) c1 f))
theorem pe_clo {T : List (Addr × Str)} {c P : Addr} {prm : Arguments} {bod : Expr} {sc : Scope} {pos : Pos} (tb : TabB X.base X.mg c P) (ec : X.env.code = .ref c) (inT : (P, X.env.qual ++ "<lambda>") ∈ T) (one : ∀ y ∈ T, y.1 = P → y.2 = X.env.qual ++ "<lambda>")
    (nd : defaultsOf prm X.env = ([], [])) (nf : ∀ y ∈ sc.names, y.2 = .free → X.env.scope.names.lookup y.1 = some .cell ∨ X.env.scope.names.lookup y.1 = some .free) : PE X (.Lambda prm bod sc pos) (tClo X T prm bod sc) :=
  ⟨fun pins s σ H Q I h => make_clo I tb ec inT one h.1 nd (fun y m e => I.ok.has _ (nf y m e)) fun f c1 H1 s1 J xt t1 n1 e1 => ⟨.ref f, _, J, rfl, h.2 f c1 H1 xt t1 n1 e1⟩⟩
end
/-! ### its run -/
/-- the captured values, by the closure's cells -/
structure Cels (b : Heap) (sc : Scope) (cl : List (Str × Addr)) (caps : List Str) (cvs : List V) : Prop where
  len : cvs.length = caps.length
  inj : ∀ x y c, cl.lookup x = some c → cl.lookup y = some c → x = y
  all : ∀ x c, cl.lookup x = some c → ∃ o v, b.get? c = some o ∧ o.data = .cell v
  has : ∀ x, sc.names.lookup x = some .free → ∃ c, cl.lookup x = some c
  val : ∀ (i : Nat) x v, caps[i]? = some x → cvs[i]? = some v → ∃ c o u, cl.lookup x = some c ∧ b.get? c = some o ∧ o.data = .cell (some u) ∧ RelV v u
theorem clo_in {cells : List (Str × Addr)} {sc : Scope} (hf : ∀ y ∈ sc.names, y.2 = .free → ∃ c, cells.lookup y.1 = some c) {y : Str} {c : Addr} (e : (cloFrom cells sc.names []).lookup y = some c) : cells.lookup y = some c := by
  rcases cloFrom_mem (PySem.mem_of_lookup e) with hm | ⟨h1, h2⟩
  · cases hm
  · obtain ⟨c1, hc⟩ := hf _ h1 rfl
    have hc : cells.lookup y = some c1 := hc
    have e2 : c = c1 := by
      rw [h2, hc] <;> rfl
    rw [e2]
    exact hc
theorem clo_out {cells : List (Str × Addr)} {sc : Scope} {y : Str} (h : sc.names.lookup y = some .free) : ∃ c, (cloFrom cells sc.names []).lookup y = some c :=
  mem_lookup (cloFrom_has (cells := cells) (acc := []) (PySem.mem_of_lookup h))
/-- slots of X that hold the captured names -/
theorem Cels.of {X : Cx} {σ : L2.St} {b : Heap} {sc : Scope} {caps : List Str} {cvs : List V} (C : CelB X σ b) (fr : ∀ y ∈ sc.names, y.2 = .free → X.env.scope.names.lookup y.1 = some .cell ∨ X.env.scope.names.lookup y.1 = some .free)
    (hc : ∀ x ∈ caps, sc.names.lookup x = some .free) (len : cvs.length = caps.length) (hj : ∀ (i : Nat) x v, caps[i]? = some x → cvs[i]? = some v → ∃ j : Nat, X.N[j]? = some x ∧ σ[j]? = some (some v)) : Cels b sc (cloFrom X.env.cells sc.names []) caps cvs := by
  have hf : ∀ y ∈ sc.names, y.2 = .free → ∃ c, X.env.cells.lookup y.1 = some c := fun y m e => C.has _ (fr y m e)
  refine ⟨len, fun x y c e1 e2 => C.inj x y c (clo_in hf e1) (clo_in hf e2), fun x c e => C.all x c (clo_in hf e), fun x e => clo_out e, fun i x v e1 e2 => ?_⟩
  obtain ⟨j, e3, e4⟩ := hj i x v e1 e2
  have hx := hc x (List.mem_of_getElem? e1)
  obtain ⟨c, o, u, q1, q2, q3, q4⟩ := C.val j x v e3 e4 (fr _ (PySem.mem_of_lookup hx) rfl)
  obtain ⟨c', q5⟩ := clo_out (cells := X.env.cells) hx
  have q6 := clo_in hf q5
  rw [q1] at q6
  cases q6
  exact ⟨c, o, u, q5, q2, q3, q4⟩
abbrev cloEnv (q : Str) (sc : Scope) (L f c : Addr) (cl : List (Str × Addr)) : Env := PySem.W.envX q sc L f (.ref c) cl
/-- the context of the closure's body -/
def cloCx (P : Program) (w : World) (K : PySem.W.Frag) (mg : Str → Option Value) (base : Heap) (N : List Str) (A : Around) (outer : List Env) (s : Shared) (H : Hp) (E : XK) (q : Str) (sc : Scope) (f c : Addr) (cl : List (Str × Addr)) : Cx where
  prog := P
  w := w
  K := K
  mg := mg
  base := base
  A := A.deeper (cloEnv q sc s.heap.objs.size f c cl)
  N := N
  s_0 := s
  H_0 := H
  env := cloEnv q sc s.heap.objs.size f c cl
  outer := outer
  stack := cloEnv q sc s.heap.objs.size f c cl :: outer
  ex := []
  fn := fun _ => false
  calm := true
  pn := []
  xe := fun e s' => wpAny (model P w) (A.deeper (cloEnv q sc s.heap.objs.size f c cl)) (leaving (cloEnv q sc s.heap.objs.size f c cl) e) (fun _ s'' => L2.CX P w outer H s E e s'') (fun e' s'' => L2.CX P w outer H s E e' s'') s'
theorem look_rev : ∀ {ps : List Str} {us : List Value} {i : Nat} {y : Str} {u : Value}, ps.Nodup → ps[i]? = some y → us[i]? = some u → (ps.zip us).reverse.lookup y = some u
  | [], _, _, _, _, _, e, _ => by simp at e
  | p :: ps, [], _, _, _, _, _, e => by simp at e
  | p :: ps, v :: us, i, y, u, nd, e1, e2 => by
    rw [List.zip_cons_cons, List.reverse_cons]
    have app : ∀ (l m : List (Str × Value)) (z : Str), (l ++ m).lookup z = (l.lookup z).or (m.lookup z) := fun l m z => by
      induction l with
      | nil => rfl
      | cons a l ih =>
        obtain ⟨k, v⟩ := a
        rw [List.cons_append, List.lookup_cons, List.lookup_cons]
        cases z == k
        · exact ih
        · rfl
    rw [app]
    cases i with
    | zero =>
      obtain rfl : p = y := Option.some.inj e1
      obtain rfl : v = u := Option.some.inj e2
      have z : (ps.zip us).reverse.lookup p = none := by
        cases h : (ps.zip us).reverse.lookup p with
        | none => rfl
        | some a =>
          have m := PySem.mem_of_lookup h
          exact absurd (List.of_mem_zip (List.mem_reverse.mp m)).1 (List.nodup_cons.mp nd).1
      rw [z]
      simp
    | succ i =>
      have e1 : ps[i]? = some y := e1
      have e2 : us[i]? = some u := e2
      rw [look_rev (List.nodup_cons.mp nd).2 e1 e2]; rfl
structure LmC (P : Program) (w : World) (K : PySem.W.Frag) (mg : Str → Option Value) (base : Heap) (j : Nat) (q : Str) (prm : Arguments) (bod : Expr) (sc : Scope) (ps caps : List Str) (sp : List V → Sp) : Prop where
  kind : sc.kind = .function
  co : sc.isCoroutine = false
  gen : sc.isGenerator = false
  noc : ∀ y ∈ sc.names, y.2 ≠ .cell
  loc : ∀ x ∈ ps, sc.names.lookup x = some .local
  fre : ∀ x ∈ caps, sc.names.lookup x = some .free
  nd : ps.Nodup
  len : ∀ cvs vs H Q E, sp cvs vs H Q E → vs.length = ps.length
  bind : ∀ (us : List Value) (cl : List (Str × Addr)) (pm cv ct : Value), us.length = ps.length → bindArgs (PySem.W.kla_fn "<lambda>" q prm bod sc cl pm cv ct) ⟨us, []⟩ = pure (ps.zip us)
  run : ∀ (cvs : List V) (f c : Addr) (cl : List (Str × Addr)) (A : Around) (outer : List Env) (s : Shared) (H : Hp) (vs : List V) (Q : VK) (E : XK), Room j (A.deeper (cloEnv q sc s.heap.objs.size f c cl)) → cvs.length = caps.length → sp cvs vs H Q E →
    ∃ te, PE (cloCx P w K mg base (ps ++ caps) A outer s H E q sc f c cl) bod te ∧ te ((vs ++ cvs).map some) H Q
section
variable {P : Program} {w : World} {K : PySem.W.Frag} {mg : Str → Option Value} {base : Heap} {j : Nat} {q : Str} {prm : Arguments} {bod : Expr} {sc : Scope} {ps caps : List Str} {sp : List V → Sp}
theorem run_clo (L : LmC P w K mg base j q prm bod sc ps caps sp) {f c : Addr} {cl : List (Str × Addr)} {cvs : List V} {A : Around} {outer : List Env} {s : Shared} {H : Hp} {us : List Value} {vs : List V} {Q : VK} {E : XK} (hr : Room (j + 1) A) (e0 : Env0 P w K mg base A outer s H)
    (ef : H f = some (CloO q prm bod sc cl c f)) (eco : H c = some (CodeO c q)) (C : Cels base sc cl caps cvs) (r : Vals vs us) (z : sp cvs vs H Q E) :
    codeAny (model P w) A (.call (.ref f) ⟨us, []⟩) (CR (L2.CX P w) outer P w H s Q E) s := by
  obtain ⟨⟨pm, ct, gf⟩, _, _⟩ := e0.hok f _ ef
  obtain ⟨⟨oc, fs, t, goc, dat, at1⟩, _, _⟩ := e0.hok c _ eco
  have ln := L.len _ _ _ _ _ z
  have lu : us.length = ps.length := by rw [← r.length]; exact ln
  have lim : s.heap.NoLimit := e0.mod.nolimit.keeps fun b o e => (e0.bs b o e).1
  have nr := hr.deeper (cloEnv q sc s.heap.objs.size f c cl)
  refine PySem.W.kla_callFunE hr.depth gf rfl L.co L.gen rfl ⟨c, oc, fs, t, rfl, goc, dat, at1⟩ ?_
  rw [L.bind us cl _ _ _ lu]
  refine wpAny_pure (wpAny_newFunctionEnv L.noc (fun y hy => L.loc _ (List.of_mem_zip hy).1) (fun h₁ hns hsb => ⟨lim.fresh _ hsb, ?_⟩) L.kind)
  show codeAny _ _ (.expr bod (cloEnv q sc s.heap.objs.size f c cl)) _ _
  have kp : ∀ b o, s.heap.get? b = some o → h₁.get? b = some o := fun b o e => hsb.extBut b o (Nat.ne_of_lt (Heap.lt_size e)) (Heap.get?_push_of_some _ e)
  obtain ⟨te, pe, hq⟩ := L.run cvs f c cl A outer s H vs Q E nr C.len z
  have noA : ∀ b : Addr, b ∉ (cloCx P w K mg base (ps ++ caps) A outer s H E q sc f c cl).ex := fun b z => absurd (show b ∈ ([] : List Addr) from z) (by simp)
  have J : Inv (cloCx P w K mg base (ps ++ caps) A outer s H E q sc f c cl) [] ((vs ++ cvs).map some) H { s with heap := h₁, toks := s.toks + (ps.zip us).length } := by
    refine ⟨⟨e0.mod, L.kind, rfl, rfl, Nat.le_refl _, C.inj, fun y hy => ?_, fun y c z _ => ?_, fun _ => hr.hd, Around.frames_deeper e0.frames, .inr ⟨rfl, rfl⟩, fun b z => absurd z (noA b), e0.bs, e0.bsz, fun b _ _ => noA b, fun b z => absurd z (noA b), e0.funs, e0.frf⟩,
      rfl, e0.bare, Un.kept kp, ⟨_, hns, fun i y v e1 e2 e3 => ?_⟩, fun y c e => ?_, e0.hok.fresh (Nat.le_refl _), fun y c e => ?_, fun q hq => absurd (show q ∈ ([] : List (Addr × Obj)) ++ [] from hq) (by simp), e0.hok.kept kp, ?_⟩
    · have hy : sc.names.lookup y = some .cell ∨ sc.names.lookup y = some .free := hy
      rcases hy with hy | hy
      · exact absurd rfl (L.noc _ (PySem.mem_of_lookup hy))
      · exact C.has y hy
    · have z : false = true := z
      cases z
    · have e1 : (ps ++ caps)[i]? = some y := e1
      rw [List.getElem?_map] at e2
      obtain ⟨v', e4, e5⟩ := Option.map_eq_some_iff.mp e2
      cases e5
      by_cases hi : i < ps.length
      · rw [List.getElem?_append_left hi] at e1
        rw [List.getElem?_append_left (by omega)] at e4
        obtain ⟨u, hu, rv⟩ := r.get e4
        exact ⟨u, rv, .inl ⟨L.loc y (List.mem_of_getElem? e1), look_rev L.nd e1 hu⟩⟩
      · rw [List.getElem?_append_right (by omega)] at e1
        rw [List.getElem?_append_right (by omega), ln] at e4
        obtain ⟨c1, o, u, q1, q2, q3, q4⟩ := C.val _ _ _ e1 e4
        exact ⟨u, q4, .inr ⟨.inr (L.fre y (List.mem_of_getElem? e1)), c1, q1, o, kp _ _ (e0.bs _ _ q2).1, q3⟩⟩
    · obtain ⟨o, v, q1, q2⟩ := C.all y c e
      exact ⟨v, o, kp _ _ (e0.bs _ _ q1).1, q2⟩
    · obtain ⟨o, v, q1, q2⟩ := C.all y c e
      exact (e0.bs _ _ q1).2
    · show ((vs ++ cvs).map some).length = (ps ++ caps).length
      rw [List.length_map, List.length_append, List.length_append, ln, C.len]
  refine PySem.W.kla_codeExpr (wpAny_mono (pe.run [] _ _ H Q J hq) (fun v s' hq => ?_) fun e s' hq => hq)
  obtain ⟨w', H', J', rv, q⟩ := hq
  exact ⟨w', H', J'.os, J'.bare, J'.base, J'.hok, rv, q⟩
end
/-! ### a value that may be called -/
structure CallV (P : Program) (w : World) (K : PySem.W.Frag) (mg : Str → Option Value) (base : Heap) (lv : Nat) (sp : Sp) (H : Hp) (f : Addr) : Prop where
  ex : ∃ fs : List (Addr × HO), (∀ p ∈ fs, H p.1 = some p.2 ∧ ∃ φ, p.2 = .ext φ) ∧ (∀ A outer s H', Env0 P w K mg base A outer s H' → (∀ p ∈ fs, H' p.1 = some p.2) → PySem.W.FnAt f s.heap) ∧
    ∀ (A : Around) (outer : List Env) (s : Shared) (H' : Hp) (us : List Value) (vs : List V) (Q : VK) (E : XK), Room lv A → Env0 P w K mg base A outer s H' → (∀ p ∈ fs, H' p.1 = some p.2) → Vals vs us → sp vs H' Q E → codeAny (model P w) A (.call (.ref f) ⟨us, []⟩) (CR (L2.CX P w) outer P w H' s Q E) s
section
variable {P : Program} {w : World} {K : PySem.W.Frag} {mg : Str → Option Value} {base : Heap} {lv j : Nat} {H H' : Hp} {f c : Addr}
theorem CallV.keep {sp : Sp} (V : CallV P w K mg base lv sp H f) (k : ∀ b φ, H b = some (.ext φ) → H' b = some (.ext φ)) : CallV P w K mg base lv sp H' f := by
  obtain ⟨fs, h1, h2, h3⟩ := V
  refine ⟨fs, fun p m => ?_, h2, h3⟩
  obtain ⟨e, φ, z⟩ := h1 p m
  rw [z] at e ⊢
  exact ⟨k _ _ e, φ, rfl⟩
theorem CallV.same {sp : Sp} (V : CallV P w K mg base lv sp H f) (s : Same H H') : CallV P w K mg base lv sp H' f := V.keep fun b φ e => s _ _ e
theorem CallV.imp {sp sp' : Sp} (V : CallV P w K mg base lv sp H f) (h : ∀ vs H Q E, sp' vs H Q E → sp vs H Q E) : CallV P w K mg base lv sp' H f :=
  let ⟨fs, h1, h2, h3⟩ := V
  ⟨fs, h1, h2, fun A outer s H' us vs Q E hr e0 ef r z => h3 A outer s H' us vs Q E hr e0 ef r (h _ _ _ _ z)⟩
theorem CallV.clo {q : Str} {prm : Arguments} {bod : Expr} {sc : Scope} {ps caps : List Str} {sp : List V → Sp} {cl : List (Str × Addr)} {cvs : List V} (L : LmC P w K mg base j q prm bod sc ps caps sp) (C : Cels base sc cl caps cvs) (ef : H f = some (CloO q prm bod sc cl c f)) (eco : H c = some (CodeO c q)) (jl : j + 1 ≤ lv) : CallV P w K mg base lv (sp cvs) H f := by
  refine ⟨[(f, CloO q prm bod sc cl c f), (c, CodeO c q)], fun p m => ?_, fun A outer s H' e0 ek => ?_, fun A outer s H' us vs Q E hr e0 ek r z => ?_⟩
  · rcases List.mem_cons.mp m with rfl | m
    · exact ⟨ef, _, rfl⟩
    · rw [List.mem_singleton.mp m]; exact ⟨eco, _, rfl⟩
  · have e1 := ek _ (.head _)
    obtain ⟨⟨pm, ct, g⟩, _, _⟩ := e0.hok f _ e1
    exact ⟨_, _, _, _, g⟩
  · exact run_clo L (hr.mono jl) e0 (ek _ (.head _)) (ek _ (.tail _ (.head _))) C r z
end
/-- a(e, ..), a a name that holds such a value -/
def tVarV (P : Program) (w : World) (K : PySem.W.Frag) (mg : Str → Option Value) (base : Heap) (lv i : Nat) (sp : Sp) (E : L2.St → XK) (ta : TA) : TE := fun σ H Q => ∃ f, σ[i]? = some (some (.ref f)) ∧ CallV P w K mg base lv sp H f ∧ ta σ H fun vs H1 => CallV P w K mg base lv sp H1 f ∧ sp vs H1 Q (E σ)
theorem pe_varV {X : Cx} {a : Str} {lv i : Nat} {sp : Sp} {E : L2.St → XK} {p pos : Pos} {e : Expr} {es : List Expr} {ta : TA} (nm : X.N[i]? = some a) (vis : Vis X.env.scope a) (hr : Room lv X.A) (hx : ∀ σ, PassesAt (L2.CX X.prog X.w) X σ (E σ)) (ha : PA X (e :: es) ta)
    (d1 : (a == ("__debug__" : Str)) = false := by decide) (d2 : (a == ("__classdict__" : Str)) = false := by decide)
    (se : starEach (e :: es) X.env = (false, eval e X.env) :: starEach es X.env := by rfl) (spl : (backTo pos (starEach es X.env)).any (·.1) = false := by rfl) :
    PE X (.Call (.Name a p) (e :: es) [] pos) (tVarV X.prog X.w X.K X.mg X.base lv i sp E ta) := by
  refine ⟨fun pins s σ H Q I h => ?_⟩
  obtain ⟨f, ef, ⟨fs, k1, k2, k3⟩, h⟩ := h
  refine wpAny_Call_Name_kw (thn ((pe_var (pos := p) (i := i) nm vis d1 d2).run pins s σ H (fun v H1 => v = .ref f ∧ H1 = H) I ⟨.ref f, ef, rfl, rfl⟩) fun u s1 ⟨v, H1, I1, r1, ev, eH⟩ => ?_)
  subst ev eH
  obtain rfl : u = Value.ref f := r1
  refine PySem.W.callWith_F (k2 _ _ _ _ I1.env0 fun p m => (k1 p m).1) (thn (ha.run pos pins s1 σ H1 _ I1 h) fun us s2 ⟨vs, H2, I2, r2, ⟨gs, g1, g2, g3⟩, q2⟩ => ⟨g2 _ _ _ _ I2.env0 fun p m => (g1 p m).1, ?_⟩) se spl
  refine wpAny_call (codeAny_mono (g3 _ _ _ _ us vs _ _ hr I2.env0 (fun p m => (g1 p m).1) r2 q2) fun r s3 hq => ?_)
  cases r with
  | error er => exact hx σ pins H2 s2 er s3 I2 hq
  | ok fl =>
    cases fl with
    | ret u => exact I2.after hq
    | next => exact False.elim hq
    | brk => exact False.elim hq
    | cont => exact False.elim hq
/-! ### a def that gets such a value -/
structure Ho (P : Program) (w : World) (K : PySem.W.Frag) (mg : Str → Option Value) (base : Heap) (CX : CXT) (x : Str) (ps : List Str) (lv : Nat) (sp : Heap → Sp) : Prop where
  ex : ∃ (f : Addr) (fd : FuncData), (∀ base', LeB K mg base base' → FnOk P w K mg base' CX lv f fd ps (sp base')) ∧ mg x = some (.ref f) ∧ PySem.W.keepIn K (.ref f) = true ∧ Binds K fd ps []
def tHo (X : Cx) (sp : Heap → Sp) (E : XK) (ta : TA) : TE := fun σ H Q => ta σ H fun vs H1 => ∀ b, LeB X.K X.mg X.base b → CelB X σ b → sp b vs H1 Q E
theorem pe_ho {X : Cx} {CX : CXT} {ps : List Str} {lv : Nat} {sp : Heap → Sp} {E : XK} {x : Str} {p pos : Pos} {e : Expr} {es : List Expr} {t : TA} (C : Ho X.prog X.w X.K X.mg X.base CX x ps lv sp) (hfn : ∀ x, X.fn x = true) (hr : Room lv X.A) (hx : Passes CX X E) (hg : Gl X x) (ha : PA X (e :: es) t) (hdb : (x == ("__debug__" : Str)) = false := by decide)
    (he : starEach (e :: es) X.env = (false, eval e X.env) :: starEach es X.env := by rfl) (hpl : (backTo pos (starEach es X.env)).any (·.1) = false := by rfl) : PE X (.Call (.Name x p) (e :: es) [] pos) (tHo X sp E t) := by
  obtain ⟨f, fd, F, hm, hk, hb⟩ := C.ex
  refine ⟨fun pins s σ H Q I h => ?_⟩
  refine wpAny_Call_Name_kw (ld_glob I hg hm ?_ hdb)
  refine PySem.W.callWith_K (h₀ := X.base) I.ok.mod.kin hk (thn (ha.run pos pins s σ H _ I h) fun us s1 ⟨vs, H1, I1, r, q⟩ => ⟨I1.kIn, ?_⟩) he hpl
  have le := le_hid I1
  have z := q _ le (celB_hid I1 hfn)
  have FF := F _ le
  have hl : us.length = ps.length := by rw [← r.length]; exact FF.len _ _ _ _ z
  have bb := hb s1 us I1.kIn (by rw [List.append_nil]; exact hl)
  rw [List.append_nil] at bb
  refine wpAny_call (codeAny_mono (FF.run X.A X.stack s1 H1 ⟨us, []⟩ us vs Q E hr (env0_hid I1) bb r z) fun r s' hq => ?_)
  cases r with
  | error e => exact hx pins σ H1 s1 e s' I1 hq
  | ok fl =>
    cases fl with
    | ret u => exact I1.after hq
    | next => exact False.elim hq
    | brk => exact False.elim hq
    | cont => exact False.elim hq
end Cq

/-! sorted of a list of data: texts, ints, tuples of these; tuples of which the first is empty too -/
namespace PySem.SeqAt
open AutoSeq1 (wpAny_loadPart')
open MeetsSeq MeetsSeq2 MeetsSeq3 SeqRoads2
section
variable {A : Around} {s : Shared}
theorem call_tuple_lt {prog : Program} {w : World} {E : Value → Shared → Prop} {Q : Value → Shared → Prop} {l b : Addr} {items items2 : Array Value} {e r : Nat → Bool} (hl : s.heap.IsTuple l items) (hb : s.heap.IsTuple b items2)
    (he : ∀ j (h1 : j < items.size) (h2 : j < items2.size), EqAt A.in1 s items[j] items2[j] (e j)) (hr : ∀ j (h1 : j < items.size) (h2 : j < items2.size), e j = false → RcLt A.in1 s items[j] items2[j] (r j))
    (h : Q (.bool (firstLt e r (decide (items.size < items2.size)) (List.range (min items.size items2.size)))) s) : wpAny (model prog w) A (call (.builtin "tuple.__lt__") [.ref l, .ref b]) Q E s := by
  obtain ⟨⟨cls, dd, data, sl⟩, ho, hc, n, hd⟩ := id hl
  obtain ⟨⟨cls2, dd2, data2, sl2⟩, ho2, hc2, n2, hd2⟩ := id hb
  simp only at hc hd hc2 hd2
  subst hc hd hc2 hd2
  exact call_meets F.slot_tuple_lt ⟨_, ho, rfl⟩ F.entry_tuple_lt (F.args_tuple_lt_2 _ _) (tuple_ltAt l b items items2 n n2 dd dd2 sl sl2 e r) ⟨ho, ho2, he, hr, h⟩
end
end PySem.SeqAt
namespace PySem.W
open PySem PySem.Calls PyProof.Rows PySem.SeqAt
section
variable {prog : Program} {w : World} {A : Around} {E : Value → Shared → Prop} {s : Shared}
theorem oneLt_tup {xs ys : List PyData} {a b : Value} {as bs : List Addr} {Q : Bool → Shared → Prop} (ra : Reads s.heap a (.tuple xs) as) (rb : Reads s.heap b (.tuple ys) bs) (hal : alikeAll xs ys = true)
    (hu : A.units + min (PyData.depth (.tuple xs)) (PyData.depth (.tuple ys)) < cLine) (hq : Q (dataLt (.tuple xs) (.tuple ys)) s) : wpAny (model prog w) A (oneLt' true a b) Q E s := by
  cases ra with
  | @tuple l o vs n _ as₁ h1 h2 h3 h4 =>
    cases rb with
    | @tuple l' o' vs' n' _ bs₁ k1 k2 k3 k4 =>
      have n1 : vs.size = xs.length := by simpa using SeqAt.ReadsAll.length _ _ _ h4
      have n2 : vs'.size = ys.length := by simpa using SeqAt.ReadsAll.length _ _ _ k4
      rw [dataLt_tuple, ← firstLt_toks xs ys hal, ← n1, ← n2] at hq
      rw [oneLt'_eq]
      simp only [if_true]
      refine wpAny_bind (wpAny_cRoomFor (room_here hu) ?_)
      refine wpAny_bind (wpAny_callSpecialIfBound?_slot (T := "tuple") ⟨_, h1, h2⟩ F.slot_tuple_lt (call_tuple_lt (e := pairEq xs ys) (r := fun j => dataLt (xs.getD j .none) (ys.getD j .none)) ⟨_, h1, h2, _, h3⟩ ⟨_, k1, k2, _, k3⟩ (fun j j1 j2 => ?_) (fun j j1 j2 hj => ?_) ?_))
      · have := eqAt_alikeAll xs ys A.in1 s vs.toList vs'.toList _ _ h4 k4 hal (room_in hu) j (by simpa using j1) (by simpa using j2)
        simpa using this
      · have := rcLt_alikeAll xs ys A.in1 s vs.toList vs'.toList _ _ h4 k4 hal (room_in hu) j (by simpa using j1) (by simpa using j2) hj
        simpa using this
      · exact wpAny_truthy_bool hq
/-- tuples, the first of them empty -/
def Tup0 (ds : List PyData) : Prop := (∀ d, d ∈ ds → ∃ xs, d = .tuple xs) ∧ ∃ r, ds = .tuple [] :: r
theorem tup_firsts {M : Model} {ds : List PyData} : ∀ {vs : List Value} {ds : List PyData}, EachIs (fun v d => ∃ as, Reads s.heap v d as) vs ds → (∀ d, d ∈ ds → ∃ xs, d = .tuple xs) →
    ∃ fs : List (Option Value), fs.length = vs.length ∧ (∀ r, ds = .tuple [] :: r → fs[0]? = some none) ∧ ∀ {Q : List (Option Value) → Shared → Prop}, Q fs s → wpAny M A (vs.mapM firstOfTuple') Q E s
  | _, _, .nil, _ => ⟨[], rfl, fun r e => (by cases e), fun h => (by rw [List.mapM_nil]; exact wpAny_pure h)⟩
  | _, _, .cons (a := v) (b := d) ⟨as, r⟩ t, ht => by
    obtain ⟨fs, h1, h2, h3⟩ := tup_firsts (M := M) (ds := ds) t fun d hd => ht d (List.mem_cons_of_mem _ hd)
    obtain ⟨xs, rfl⟩ := ht d (List.mem_cons_self ..)
    cases r with
    | @tuple a o ys n _ _ ho hc hd hr =>
      refine ⟨ys[0]? :: fs, by rw [List.length_cons, List.length_cons, h1], fun r e => ?_, fun {Q} h => ?_⟩
      · cases e
        have : ys.toList = [] := by
          generalize ys.toList = l at hr
          cases hr; rfl
        have e2 : ys[0]? = none := by rw [← Array.getElem?_toList, this]; rfl
        rw [e2]; rfl
      · rw [List.mapM_cons]
        refine wpAny_bind ?_
        rw [kas_first_eq]
        refine wpAny_bind (Looks.here (show Looks M s.heap (typeOf (.ref a)) o.cls from (Looks.ld ho).andThen .now) ?_)
        rw [hc, if_neg (by first | decide | simp)]
        refine wpAny_bind (listItems_at ho hd (wpAny_pure ?_))
        exact wpAny_bind (h3 (Q := fun bs s' => wpAny M A (pure (ys[0]? :: bs)) Q E s') (wpAny_pure h))
theorem tup0_kind {M : Model} {vs : List Value} {ds : List PyData} {Q : SortKind → Shared → Prop} (e : EachIs (fun v d => ∃ as, Reads s.heap v d as) vs ds) (h0 : Tup0 ds) (h : Q oneType' s) :
    wpAny M A (keyKind' vs.toArray) Q E s := by
  obtain ⟨ht, r, er⟩ := h0
  obtain ⟨fs, h1, h2, h3⟩ := tup_firsts (M := M) (A := A) (E := E) (ds := ds) e ht
  have h2 := h2 r er
  have hne : vs ≠ [] := by
    rintro rfl
    have := e.length
    rw [er] at this
    simp at this
  rw [kat_kind_eq, List.mapM_toArray, map_eq_pure_bind]
  refine wpAny_bind (wpAny_bind (h3 (wpAny_pure ?_)))
  have hfs : ∃ fr, fs = none :: fr := by
    cases fs with
    | nil => simp at h2
    | cons x fr => simp at h2; subst h2; exact ⟨fr, rfl⟩
  obtain ⟨fr, rfl⟩ := hfs
  have hall : ((none :: fr : List (Option Value)).toArray.all fun x => x.isSome) = false := by simp
  rw [if_neg (by rw [hall]; decide)]
  have hf0 : (((none :: fr : List (Option Value)).toArray[0]?).bind id).isSome = false := by simp
  rw [if_neg (by rw [hf0]; decide)]
  have hT : ∀ v ∈ vs, Looks M s.heap (typeOf v) (.type "tuple") := fun v hv => by
    obtain ⟨d, hd, as, r⟩ := e.left v hv
    obtain ⟨xs, rfl⟩ := ht d hd
    exact looks_reads r
  obtain ⟨v₁, rest, rfl⟩ := List.exists_cons_of_ne_nil hne
  rw [oneTypeOnly'_eq, List.mapM_toArray, map_eq_pure_bind]
  refine wpAny_bind (wpAny_bind (wpAny_bind (kas_mapM (r := .type "tuple") _ (fun v hv Q' hq => (hT v hv).here hq) (wpAny_pure ?_))))
  have hall2 : ((List.map (fun _ => Value.type "tuple") (v₁ :: rest)).toArray.all fun x => x == Value.type "tuple") = true := by
    simp only [List.all_toArray, List.all_map, List.all_eq_true]
    intro _ _
    exact beq_self_eq_true _
  have h0 : (List.map (fun _ => Value.type "tuple") (v₁ :: rest)).toArray[0]? = some (Value.type "tuple") := by simp
  rw [h0]
  simp only [hall2, if_true]
  exact wpAny_pure (wpAny_pure h)
theorem SortsAt.tup0 {vs : List Value} {ds : List PyData} (e : EachIs (fun v d => ∃ as, Reads s.heap v d as) vs ds) (hal : AllAlike ds) (hk : Tup0 ds) (hu : ∀ d, d ∈ ds → A.units + d.depth < cLine) : SortsAt prog w A s (dataKind s.heap ds) vs := by
  have room : ∀ {d d' : PyData}, d ∈ ds → A.units + min d.depth d'.depth < cLine := fun {d d'} hd => Nat.lt_of_le_of_lt (Nat.add_le_add_left (Nat.min_le_left _ _) _) (hu d hd)
  refine ⟨fun v hv => ?_, oneType', ?_, fun h2 E Q hq => tup0_kind e hk hq⟩
  · obtain ⟨d, hd, as, r⟩ := e.left v hv
    exact ⟨_, dataKind_some hal hd r⟩
  · intro E x y a b Q ha hb hq
    obtain ⟨d, as, hd, ra, rfl⟩ := dataKind_inv ha
    obtain ⟨d', as', hd', rb, rfl⟩ := dataKind_inv hb
    rw [keyLt'_oneType]
    have hr := room (d' := d') hd
    have hdd := hal d hd d' hd'
    obtain ⟨xs, rfl⟩ := hk.1 d hd
    obtain ⟨ys, rfl⟩ := hk.1 d' hd'
    exact oneLt_tup ra rb (by simpa [alike] using hdd) hr hq
section
variable {β : Type} {vs : List Value} {bs : List β} {enc : β → PyData} {R : Value → β → Prop}
theorem sorted_dataT {l : Addr} {Q : Value → Shared → Prop} (hl : s.heap.IsList l vs.toArray) (e : EachIs R vs bs) (er : EachIs (fun v b => ∃ as, Reads s.heap v (enc b) as) vs bs) (hal : AllAlike (bs.map enc)) (hk : Sortable (bs.map enc) ∨ Tup0 (bs.map enc)) (hL : bs.length ≤ sizeLine)
    (hu : ∀ b, b ∈ bs → A.units + 2 + (enc b).depth < cLine) (h : ∀ out, out.length = bs.length → EachIs R out (bs.mergeSort (dataLe false enc)) → Q (.ref (s.heap.objs.size + 1)) { s with heap := sortedAll s.heap vs (List.toArray out) }) :
    wpAny (model prog w) A (call (.builtin "sorted") [.ref l]) Q E s := by
  rcases hk with hk | hk
  · exact sorted_data hl e er hal hk hL hu h
  have er' : EachIs (fun v b => ∃ as, Reads (sortingHeap (copyHeap s.heap vs) (s.heap.objs.size + 1) vs) v (enc b) as) vs bs := er.mono fun _ _ ⟨as, r⟩ => ⟨as, PyProof.Rows.Reads.keeps (fun _ _ => sorting_copy_old) r⟩
  exact sorted_vals hl (SortsAt.tup0 (s := { s with heap := sortingHeap (copyHeap s.heap vs) (s.heap.objs.size + 1) vs }) (each_map (R := fun v d => ∃ as, Reads (sortingHeap (copyHeap s.heap vs) (s.heap.objs.size + 1) vs) v d as) enc er') hal hk (bound_map hu)) (by rw [e.length]; exact hL)
    (h _ (by rw [sortVals_length false rfl]; exact e.length) (sortVals_data false e er' hal))
end
end
end PySem.W
namespace L2
open PySem PySem.Spec PyProof.Rows PySem.W
/-- sorted(xs), xs a list that reads as data (bs: the items, each with its datum): a new list -/
def rSortD (K : PySem.W.Frag) : List V → Hp → VK → Prop := fun vs H Q => ∃ (a : Addr) (bs : List (V × PyData)), vs = [V.ref a] ∧ SqL K H a (bs.map (·.1)) ∧ (∀ b ∈ bs, Dp K H b.1 b.2 ∧ b.2.depth ≤ 20) ∧ AllAlike (bs.map (·.2)) ∧ (Sortable (bs.map (·.2)) ∨ Tup0 (bs.map (·.2))) ∧
  ∀ p, H p = none → Q (.ref p) (upd H p (.lst ((bs.mergeSort (dataLe false (·.2))).map (·.1))))
theorem each_vals : ∀ {us : List Value} {bs : List (V × PyData)}, EachIs (fun u b => RelV b.1 u) us bs → Vals (bs.map (·.1)) us
  | _, _, .nil => .nil
  | _, _, .cons h t => .cons h (each_vals t)
theorem vals_each : ∀ {us : List Value} {bs : List (V × PyData)}, Vals (bs.map (·.1)) us → EachIs (fun u b => RelV b.1 u) us bs
  | _, [], h => by cases h; exact .nil
  | _, b :: bs, h => by cases h with | cons h1 h2 => exact .cons h1 (vals_each h2)
section
variable {X : Cx}
theorem cr_sortD (hu : X.A.units + 64 < cLine) : CallR X (.builtin "sorted") (rSortD X.K) := by
  intro pins s σ H vs us Q I r h
  obtain ⟨a, bs, rfl, hs, hx, hal, hk, q⟩ := h
  obtain ⟨its, rv, hl, hz⟩ := I.list hs
  obtain ⟨u, rfl, ru⟩ := vals1 r
  obtain rfl : u = Value.ref a := ru
  have e := vals_each rv
  have hm : ∀ {us : List Value} {cs : List (V × PyData)}, EachIs (fun u b => RelV b.1 u) us cs → (∀ b ∈ cs, b ∈ bs) → EachIs (fun v b => ∃ as, Reads s.heap v ((·.2) b) as) us cs := by
    intro us cs h
    induction h with
    | nil => intro _; exact .nil
    | cons h1 _ ih => intro hb; exact .cons (Dp.reads I _ _ _ (hx _ (hb _ (List.mem_cons_self ..))).1 h1) (ih fun b m => hb b (List.mem_cons_of_mem _ m))
  rw [List.length_map] at hz
  refine sorted_dataT (enc := (·.2)) hl.isList e (hm e fun _ h => h) hal hk hz (fun b hb => ?_) fun out ho eo => ?_
  · have := (hx b hb).2
    omega
  · obtain ⟨n, hn⟩ := sortedAll_at s.heap its out.toArray
    have hv := each_vals eo
    refine ⟨.ref (s.heap.objs.size + 1), upd H (s.heap.objs.size + 1) (.lst ((bs.mergeSort (dataLe false (·.2))).map (·.1))), I.laid (t' := s.toks) (fun _ _ => sortedAll_old) (Nat.le_succ _) ⟨?_, out, n, hv, hn⟩, rfl, q _ (I.hok.fresh (Nat.le_succ _))⟩
    rw [List.length_map, List.length_mergeSort]
    exact hz
end
end L2

namespace K6
open PySem PySem.Spec PyProof.Rows L2 Hb St Sq Ow En Zp RZ Rd Xb Da Lg Cq LamX Lc Lp
/-! ### sorted of a list whose items stand for things -/
theorem zip_fst {α β : Type} {R : α → β → Prop} {as : List α} {bs : List β} (h : All2 R as bs) : (as.zip bs).map (·.1) = as := by
  induction h with
  | nil => rfl
  | cons _ _ ih => simpa using ih
theorem zip_snd {α β : Type} {R : α → β → Prop} {as : List α} {bs : List β} (h : All2 R as bs) : (as.zip bs).map (·.2) = bs := by
  induction h with
  | nil => rfl
  | cons _ _ ih => simpa using ih
theorem zip_mem {α β : Type} {R : α → β → Prop} {as : List α} {bs : List β} (h : All2 R as bs) : ∀ z ∈ as.zip bs, R z.1 z.2 ∧ z.2 ∈ bs := by
  induction h with
  | nil => intro z hz; cases hz
  | cons r _ ih =>
    intro z hz
    rw [List.zip_cons_cons] at hz
    rcases List.mem_cons.mp hz with rfl | hz
    · exact ⟨r, List.mem_cons_self ..⟩
    · exact ⟨(ih z hz).1, List.mem_cons_of_mem _ (ih z hz).2⟩
theorem all2_maps {α β γ : Type} {R : α → β → Prop} {f : γ → α} {g : γ → β} : ∀ {zs : List γ}, (∀ z ∈ zs, R (f z) (g z)) → All2 R (zs.map f) (zs.map g)
  | [], _ => .nil
  | z :: zs, h => .cons (h z (List.mem_cons_self ..)) (all2_maps fun y hy => h y (List.mem_cons_of_mem _ hy))
theorem srt_pairs {γ : Type} {enc : γ → PyData} {R : V → γ → Prop} {its : List V} {gs : List γ} (al : All2 R its gs) : All2 R ((((its.zip gs).map fun z => (z.1, enc z.2)).mergeSort (PySem.W.dataLe false (·.2))).map (·.1)) (gs.mergeSort (PySem.W.dataLe false enc)) := by
  let f : V × γ → V × PyData := fun z => (z.1, enc z.2)
  let r : V × γ → V × γ → Bool := fun a b => PySem.W.dataLe false enc a.2 b.2
  have m1 : ((its.zip gs).map f).mergeSort (PySem.W.dataLe false (·.2)) = ((its.zip gs).mergeSort r).map f := (List.map_mergeSort (f := f) (r := r) fun a _ b _ => rfl).symm
  have m2 : gs.mergeSort (PySem.W.dataLe false enc) = ((its.zip gs).mergeSort r).map (·.2) := by
    conv => lhs; rw [← zip_snd al]
    exact (List.map_mergeSort (f := fun z : V × γ => z.2) (r := r) fun a _ b _ => rfl).symm
  rw [m1, m2, List.map_map]
  exact all2_maps fun z hz => (zip_mem al z ((List.mergeSort_perm _ _).mem_iff.mp hz)).1
theorem sort_all {γ : Type} {enc : γ → PyData} {R : V → γ → Prop} {K : PySem.W.Frag} {H : Hp} {a : Addr} {its : List V} {gs : List γ} {Q : VK} (e : H a = some (.lst its)) (al : All2 R its gs) (dp : ∀ v g, R v g → Dp K H v (enc g)) (dep : ∀ g ∈ gs, (enc g).depth ≤ 20)
    (alk : ∀ x y, PySem.W.alike (enc x) (enc y) = true) (hk : PySem.W.Sortable (gs.map enc) ∨ PySem.W.Tup0 (gs.map enc)) (q : ∀ p its' H', Same H H' → H' p = some (.lst its') → All2 R its' (gs.mergeSort (PySem.W.dataLe false enc)) → Q (.ref p) H') : rSortD K [.ref a] H Q := by
  let f : V × γ → V × PyData := fun z => (z.1, enc z.2)
  have e1 : ((its.zip gs).map f).map (·.1) = its := by rw [List.map_map]; exact zip_fst al
  have e2 : ((its.zip gs).map f).map (·.2) = gs.map enc := by
    rw [List.map_map]
    conv => rhs; rw [← zip_snd al]
    rw [List.map_map]; rfl
  refine ⟨a, (its.zip gs).map f, rfl, SqL.of (by rw [e1]; exact e), fun b hb => ?_, ?_, by rw [e2]; exact hk, fun p hp => ?_⟩
  · obtain ⟨z, hz, rfl⟩ := List.mem_map.mp hb
    obtain ⟨r, m⟩ := zip_mem al z hz
    exact ⟨dp _ _ r, dep _ m⟩
  · rw [e2]
    intro d hd d' hd'
    obtain ⟨x, _, rfl⟩ := List.mem_map.mp hd
    obtain ⟨y, _, rfl⟩ := List.mem_map.mp hd'
    exact alk x y
  · exact q p _ _ (same_new hp _) upd_same (srt_pairs al)
theorem passF {X : Cx} {σ : L2.St} : PassesAt (L2.CX X.prog X.w) X σ (fun _ _ _ => False) := fun _ _ _ _ _ _ ⟨_, _, _, _, _, _, _, _, _, _, _, _, z⟩ => z.elim
theorem Cl.up {P : Program} {w : World} {K : PySem.W.Frag} {mg : Str → Option Value} {b b' : Heap} {x : Str} {ps : List Str} {dvs : List V} {lv : Nat} {sp : Sp} (C : Cl P w K mg b x ps dvs lv sp) (le : LeB K mg b b') : Cl P w K mg b' x ps dvs lv sp := by
  obtain ⟨f, fd, ds, F, r⟩ := C.ex
  exact ⟨f, fd, ds, FnOk.up F le, r⟩
theorem Cx_.up {P : Program} {w : World} {K : PySem.W.Frag} {mg : Str → Option Value} {b b' : Heap} {x : Str} {ps : List Str} {lv : Nat} {sp : Sp} (C : Cx_ P w K mg b x ps lv sp) (le : LeB K mg b b') : Cx_ P w K mg b' x ps lv sp := by
  obtain ⟨f, fd, F, r⟩ := C.ex
  exact ⟨f, fd, FnOk.up F le, r⟩
/-- a def by its body, its code object at c, whatever its defaults -/
theorem okCD {P : Program} {w : World} {K : PySem.W.Frag} {mg : Str → Option Value} {base : Heap} {CX : CXT} {x qual : Str} {st : Stmt} {f c : Addr} {oc : Value} {od an : Option Addr} {osl : Array (Option Value)} {dV kV doc pm ct : Value} {N ps : List Str} {k : Nat} {sp : Sp}
    (lk : K.lookup f = some ⟨oc, od, .func (PySem.W.fnOf x qual (defArgs st) (defBody st) (defScope st) dV kV doc pm an (.ref c) ct), osl⟩) (cd : PySem.W.codeIn K (.ref c) qual = true) (S : FnScope N ps (defScope st)) (len : ∀ vs H Q E, sp vs H Q E → vs.length = ps.length)
    (hbody : ∀ (A : Around) (outer : List Env) (s : Shared) (H : Hp) (vs : List V) (Q : VK) (E : XK), Room k (A.deeper (envOfC qual (defScope st) s.heap.objs.size f (.ref c))) → sp vs H Q E →
      ∃ t, PSs (cxOf CX P w K mg base N qual (defScope st) f (.ref c) A outer s H E) (defBody st) t ∧ t { nx := fun _ H' => Q .non H', rt := Q } (start N vs) H) :
    FnOk P w K mg base CX (k + 1) f (PySem.W.fnOf x qual (defArgs st) (defBody st) (defScope st) dV kV doc pm an (.ref c) ct) ps sp :=
  fn_of lk cd S len fun A outer s H vs Q E hr hsp => hbody A outer s H vs Q E hr hsp
def lamArg : Stmt → Expr
  | .Return (some (.Call _ [_, l] _ _)) _ => l
  | _ => .Constant .none 0 ⟨0, 0, 0, 0⟩
def lPrm : Expr → Arguments
  | .Lambda p _ _ _ => p
  | _ => { posonlyargs := [], args := [], vararg := none, kwonlyargs := [], kw_defaults := [], kwarg := none, defaults := [] }
def lBod : Expr → Expr
  | .Lambda _ b _ _ => b
  | e => e
def lSc : Expr → Scope
  | .Lambda _ _ s _ => s
  | _ => { kind := .function, names := [], isGenerator := false, isCoroutine := false }

theorem pe_varVK {X : Cx} {P : Program} {w : World} {K : PySem.W.Frag} {mg : Str → Option Value} {base : Heap} {a : Str} {lv i : Nat} {sp : Sp} {p pos : Pos} {e : Expr} {es : List Expr} {ta : TA} (hP : X.prog = P) (hw : X.w = w) (hK : X.K = K) (hm : X.mg = mg) (hb : X.base = base) (nm : X.N[i]? = some a) (vis : Vis X.env.scope a) (hr : Room lv X.A) (ha : PA X (e :: es) ta)
    (d1 : (a == ("__debug__" : Str)) = false := by decide) (d2 : (a == ("__classdict__" : Str)) = false := by decide)
    (se : starEach (e :: es) X.env = (false, eval e X.env) :: starEach es X.env := by rfl) (spl : (backTo pos (starEach es X.env)).any (·.1) = false := by rfl) :
    PE X (.Call (.Name a p) (e :: es) [] pos) (tVarV P w K mg base lv i sp (fun _ _ _ _ => False) ta) := by
  subst hP hw hK hm hb
  exact pe_varV nm vis hr (fun _ => passF) ha d1 d2 se spl
theorem alike_ev (p q : Str × Nat) : PySem.W.alike (evPD p) (evPD q) = true := rfl
theorem dep_ev (p : Str × Nat) : (evPD p).depth ≤ 20 := by
  show max 0 (max 0 0) + 1 ≤ 20
  decide
def srtE (es : List (Str × Nat)) : List (Str × Nat) := es.mergeSort (PySem.W.dataLe false evPD)
theorem sortE {K : PySem.W.Frag} {H : Hp} {Q : VK} {a : Addr} {its : List V} {es : List (Str × Nat)} (e : H a = some (.lst its)) (al : All2 (PrS H) its es) (q : ∀ p its' H', Same H H' → H' p = some (.lst its') → All2 (PrS H') its' (srtE es) → Q (.ref p) H') : rSortD K [.ref a] H Q :=
  sort_all (enc := evPD) e al (fun _ _ r => r.dp) (fun g _ => dep_ev g) alike_ev (.inl (PySem.W.Sortable.tuples fun l => ⟨_, _, rfl⟩)) fun p its' H' s e' al' => q p its' H' s e' (al'.imp fun _ _ r => r.on (.same s))
def selJ (ls : List LotT) (want : Str → Nat → Bool) (n : Nat) : List (Str × Nat) := (List.range n).flatMap fun j => (evR ls j).filter fun p => want p.1 j
theorem selJ_succ (ls : List LotT) (want : Str → Nat → Bool) (n : Nat) : selJ ls want (n + 1) = selJ ls want n ++ (evR ls n).filter fun p => want p.1 n := by
  unfold selJ
  rw [List.range_succ, List.flatMap_append]
  simp
theorem selJ_len {ls : List LotT} {want : Str → Nat → Bool} {k : Nat} (h : ∀ l ∈ ls, l.length ≤ k) : ∀ n, (selJ ls want n).length ≤ n * k
  | 0 => Nat.zero_le _
  | n + 1 => by
    have ih := selJ_len (want := want) h n
    rw [selJ_succ, List.length_append, Nat.succ_mul]
    have : ((evR ls n).filter fun p => want p.1 n).length ≤ k := by
      refine Nat.le_trans (List.length_filter_le _ _) ?_
      unfold evR
      rw [List.length_map]
      cases e : ls[n]? with
      | none => rw [List.getD_eq_getElem?_getD, e]; exact Nat.zero_le _
      | some l => rw [List.getD_eq_getElem?_getD, e]; exact h l (List.mem_of_getElem? e)
    omega
theorem selJ_all (ls : List LotT) (want : Str → Nat → Bool) : selJ ls want ls.length = sel ls want := by
  unfold selJ sel evR
  congr 1
  funext n
  rw [List.filter_map]; rfl
/-- what a wish on events is to those who call it -/
def WishE (H0 : Hp) (spf : Sp) (want : Str → Nat → Bool) (ls : List LotT) : Prop := ∀ n, n < ls.length → ∀ x ∈ ls.getD n [], ∀ (H : Hp) (Q : VK), Same H0 H → (∀ H', Same H H' → Q (.bl (want x n)) H') → spf [.str x, .int (n : Nat)] H Q fun _ _ _ => False
section
variable {P : Program} {w : World} {K : PySem.W.Frag} {mg : Str → Option Value} {base : Heap}
/-! ### events_where -/
abbrev s_events_where : Stmt := top 25
theorem sc_events_where : FnScope ["lots", "is_wanted", "events", "number", "pairs", "name", "turn"] ["lots", "is_wanted"] (defScope s_events_where) := ⟨rfl, rfl, rfl, by decide +kernel, rfl, by decide +kernel, by decide +kernel⟩
def spWhO (P : Program) (w : World) (K : PySem.W.Frag) (mg : Str → Option Value) (b : Heap) : Sp := fun vs H Q _ => ∃ (a f : Addr) (ls : List LotT) (want : Str → Nat → Bool) (spf : Sp), vs = [.ref a, .ref f] ∧ LTH H a ls ∧ ls.length ≤ 1000 ∧ (∀ l ∈ ls, l.length ≤ 1000) ∧ CallV P w K mg b 7 spf H f ∧ WishE H spf want ls ∧
  ∀ r its H', Same H H' → H' r = some (.tup its) → All2 (PrS H') its (srtE (sel ls want)) → Q (.ref r) H'
theorem ok_whO {f : Addr} {fd : FuncData} (F : Fun K "events_where" "events_where" s_events_where f fd) (C_events_of : Cl P w K mg base "events_of" ["tale"] [] 1 (spEvs K)) (n_enumerate : mg "enumerate" = none) (n_sorted : mg "sorted" = none) (n_tuple : mg "tuple" = none) : FnOk P w K mg base CX0 8 f fd ["lots", "is_wanted"] (spWhO P w K mg base) := by
  refine F.ok sc_events_where (fun vs H Q E h => ?_) (fun cdv A outer s H vs Q E hr h => ?_)
  · obtain ⟨_, _, _, _, _, rfl, _⟩ := h
    rfl
  · obtain ⟨a, f, ls, want, spf, rfl, hl, ll, lm, cv, wish, q⟩ := h
    refine ⟨_, (pss_cons (ps_set (i := 2) sc_events_where.nd rfl (Or.inl rfl) (pe_lst pa_nil))
    (Evl.pss_cut (ps_for PassesOwn.never rfl (pi_enumT (by rfl) n_enumerate (pa_cons (pe_use C_events_of (hr.mono (by decide)) rfl (pa_cons (pv 0) pa_nil)) pa_nil)) (pg_tup rfl (pgs_cons (pg_name (i := 3) sc_events_where.nd rfl (Or.inr rfl)) (pgs_cons (pg_name (i := 4) sc_events_where.nd rfl (Or.inl rfl)) pgs_nil)))
      (pss_one (ps_set (i := 2) sc_events_where.nd rfl (Or.inl rfl) (pe_op op_cat (pv 2) (pe_lc (own := [("name", 5), ("turn", 6)]) (g := gTup K 2 (gCons (gName 5) (gCons (gName 6) gNil))) rfl sc_events_where.nd (pi_seq (pv 4)) (blkOk_by (N := ["lots", "is_wanted", "events", "number", "pairs", "name", "turn"]) (sc := defScope s_events_where) (by decide +kernel)) (fun _ _ _ _ _ => pg_tup rfl (pgs_cons (pg_name (i := 5) sc_events_where.nd rfl (Or.inl rfl)) (pgs_cons (pg_name (i := 6) sc_events_where.nd rfl (Or.inl rfl)) pgs_nil))) (fun _ _ _ _ _ => pts_one (pt_val (pe_varVK (P := P) (w := w) (K := K) (mg := mg) (base := base) (lv := 7) (i := 1) (sp := spf) rfl rfl rfl rfl rfl (by rfl) (by first | exact .inl rfl | exact .inr (.inl rfl) | exact .inr (.inr rfl)) hr (pa_cons (pv 5) (pa_cons (pv 3) pa_nil))))) (fun _ _ _ _ _ => pe_tup (pa_cons (pv 5) (pa_cons (pv 6) pa_nil))))))))
    (pss_one (ps_ret (pe_callTy call_tuple_of (by rfl) n_tuple (by decide +kernel) (pa_cons (pe_callB (cr_sortD hr.units) (by rfl) n_sorted (by decide +kernel) (pa_cons (pv 2) pa_nil)) pa_nil)))))), ?_⟩
    refine ⟨by show 0 ≤ sizeLine; decide, fun F0 kF => ?_⟩
    have s0 := same_new kF (.lst [])
    have eF0 : upd H F0 (.lst []) F0 = some (.lst []) := upd_same
    generalize upd H F0 (.lst []) = H0 at s0 eF0 ⊢
    have hl0 := hl.same s0
    let S : Addr → Option V → Option V → Option V → Option V → L2.St := fun F o3 o4 o5 o6 => [some (.ref a), some (.ref f), some (.ref F), o3, o4, o5, o6]
    let IV : Nat → Addr → Hp → Prop := fun j F H' => Same H0 H' ∧ ∃ jts, H' F = some (.lst jts) ∧ All2 (PrS H') jts (selJ ls want j)
    refine ⟨fun σ H' => ∃ F o3 o4 o5 o6, σ = S F o3 o4 o5 o6 ∧ IV ls.length F H', ?_, ?_⟩
    · refine ⟨_, rfl, a, ls, rfl, hl0, ll, lm, fun ep eits H1 s1 e1 al1 => ⟨ep, rfl, ⟨eits, SqT.of e1⟩, ?_⟩⟩
      have le : eits.length = ls.length := by rw [al1.len]; unfold evF; rw [List.length_map, List.length_range]
      refine for_en en_tup (fun j σ H' => ∃ F o3 o4 o5 o6, σ = S F o3 o4 o5 o6 ∧ IV j F H' ∧ Same H1 H') ⟨F0, _, _, _, _, rfl, ⟨s1, [], s1 _ _ eF0, .nil⟩, Same.refl _⟩ (fun j σ H' pv => let ⟨_, _, _, _, _, _, _, s⟩ := pv; SqT.of (s _ _ e1)) ?_ ?_
      · rintro j σ H2 y t ey ⟨F, o3, o4, o5, o6, rfl, ⟨s2, jts, eF, alj⟩, s12⟩ ht
        obtain ⟨row, erow, hrow⟩ := al1.get ey
        have hj : j < ls.length := by rw [← le]; exact (List.getElem?_eq_some_iff.mp ey).1
        have er : row = evR ls j := by
          unfold evF at erow
          rw [List.getElem?_map, List.getElem?_range hj] at erow
          exact (Option.some.inj erow).symm
        subst er
        obtain ⟨rb, rits, rfl, erb, alr⟩ := hrow.on (.same s12)
        have s3 := same_new ht (.tup [.int (j : Nat), .ref rb])
        refine ⟨t, _, rfl, SqT.of upd_same, rfl, _, _, rfl, _, _, rfl, rfl, ?_⟩
        generalize upd H2 t (.tup [.int (j : Nat), .ref rb]) = H3 at s3 ⊢
        have lr : (evR ls j).length ≤ 1000 := by
          unfold evR
          rw [List.length_map, List.getD_eq_getElem?_getD, List.getElem?_eq_getElem hj]
          exact lm _ (List.getElem_mem hj)
        refine ⟨_, rfl, _, rfl, rb, rits, rfl, .inr (SqT.of (s3 _ _ erb)), fun J SS W z0 D hD => ?_⟩
        refine lc_mf (ds := evR ls j) W (fun p => want p.1 j) PrS z0 hD alr.len (fun i v p H' ev epp sp m => ?_) (fun H4 ys s4 e4 al4 => ?_)
        · obtain ⟨p2, ep2, pb, rfl, epb⟩ := alr.get ev
          obtain rfl : p2 = p := Option.some.inj (ep2.symm.trans epp)
          have sp3 := s3.trans sp
          have mem : p2.1 ∈ ls.getD j [] := by
            have := at_mem epp
            unfold evR at this
            obtain ⟨x, hx, rfl⟩ := List.mem_map.mp this
            exact hx
          have s0p := (s0.trans s2).trans sp3
          refine ⟨pb, [.str p2.1, .int (p2.2 : Nat)], rfl, SqT.of (sp3 _ _ epb), rfl, _, _, rfl, _, _, rfl, rfl, rfl, ?_⟩
          refine ⟨f, rfl, cv.same s0p, _, rfl, _, rfl, cv.same s0p, wish j hj p2.1 mem H' _ s0p fun H'' s'' => ⟨_, rfl, ?_⟩⟩
          cases c : want p2.1 j with
          | true => exact iteT ⟨_, rfl, _, rfl, by show 2 ≤ sizeLine; decide, fun t2 ht2 => mf_yes m hD (fun _ _ _ _ f h => h.on (.fix f)) epp (by omega) (s''.trans (same_new ht2 _)) c ⟨t2, rfl, upd_same⟩⟩
          | false => exact iteF (mf_no m (fun _ _ _ _ f h => h.on (.fix f)) epp s'' c)
        · have s34 := s3.trans s4
          have l1 := alj.len
          have l2 := al4.len
          have l3 := selJ_len (want := want) lm j
          have l4 := List.length_filter_le (fun p : Str × Nat => want p.1 j) (evR ls j)
          refine ⟨F, D, jts, ys, rfl, rfl, s34 _ _ eF, e4, by rw [sizeLine_eq]; omega, fun c kc => ?_⟩
          have s5 := same_new kc (.lst (jts ++ ys))
          refine ⟨c, _, _, _, _, rfl, ⟨(s2.trans s34).trans s5, _, upd_same, ?_⟩, (s12.trans s34).trans s5⟩
          rw [selJ_succ]
          exact (alj.imp fun _ _ h => (PrS.on h (.same s34)).on (.same s5)).app (al4.imp fun _ _ h => PrS.on h (.same s5))
      · rintro σ H2 ⟨F, o3, o4, o5, o6, rfl, iv, _⟩
        rw [le] at iv
        exact ⟨F, _, _, _, _, rfl, iv⟩
    · rintro σ H1 ⟨F, o3, o4, o5, o6, rfl, s1, jts, eF, alj⟩
      rw [selJ_all] at alj
      refine ⟨_, rfl, ?_⟩
      dsimp only [tNil]
      refine sortE eF alj fun p its5 H5 s5 e5 al5 => ?_
      refine ⟨p, its5, rfl, .inl ⟨SqL.of e5, fun r hr => ?_⟩⟩
      have s6 := same_new hr (.tup its5)
      exact q r its5 _ (((s0.trans s1).trans s5).trans s6) upd_same (al5.imp fun _ _ h => PrS.on h (.same s6))
end
end K6

namespace K6
open PySem PySem.Spec PyProof.Rows L2 Hb St Sq Ow En Zp RZ Rd Xb Da Lg Cq LamX Lc Lp
abbrev s_silent_for_sure : Stmt := top 24
theorem sc_silent_for_sure : FnScope ["lots", "heard", "lot", "numbers", "number", "name", "laid"] ["lots", "heard"] (defScope s_silent_for_sure) := ⟨rfl, rfl, rfl, by decide +kernel, rfl, by decide +kernel, by decide +kernel⟩
abbrev s_heard_for_sure : Stmt := top 26
theorem sc_heard_for_sure : FnScope ["lots", "heard"] ["lots", "heard"] (defScope s_heard_for_sure) := ⟨rfl, rfl, rfl, by decide +kernel, rfl, by decide +kernel, by decide +kernel⟩
abbrev qSI : Str := (envOfC "silent_for_sure" (defScope s_silent_for_sure) 0 0 .none).qual ++ "<lambda>"
abbrev qHE : Str := (envOfC "heard_for_sure" (defScope s_heard_for_sure) 0 0 .none).qual ++ "<lambda>"
abbrev lamSI : Expr := lamArg ((defBody s_silent_for_sure).getD 2 (.Pass ⟨0, 0, 0, 0⟩))
abbrev lamHE : Expr := lamArg ((defBody s_heard_for_sure).getD 1 (.Pass ⟨0, 0, 0, 0⟩))
/-- what is laid so far: names at lots -/
def Log (kvs : List (List Key × V)) (ps : List (Str × Nat)) : Prop := (∀ (x : Str) (n : Nat), (valV kvs [.inr x, .inl (n : Int)]).isSome = true ↔ (x, n) ∈ ps) ∧ kvs.length ≤ ps.length
theorem Log.nil : Log [] [] := ⟨fun x n => ⟨fun h => (by cases h), fun h => (by cases h)⟩, Nat.le_refl _⟩
theorem Log.put {kvs : List (List Key × V)} {ps : List (Str × Nat)} (h : Log kvs ps) (x : Str) (n : Nat) (v : V) : Log (putK kvs [.inr x, .inl (n : Int)] v) (ps ++ [(x, n)]) := by
  refine ⟨fun y m => ?_, ?_⟩
  · rw [valV_put, List.mem_append, List.mem_singleton]
    by_cases c : ([.inr y, .inl (m : Int)] : List Key) = [.inr x, .inl (n : Int)]
    · rw [if_pos c]
      injection c with c1 c2
      injection c1 with c1
      injection c2 with c2 _
      injection c2 with c2
      subst c1
      obtain rfl : m = n := Int.ofNat_inj.mp c2
      exact ⟨fun _ => .inr rfl, fun _ => rfl⟩
    · rw [if_neg c, h.1 y m]
      exact ⟨.inl, fun z => z.elim id fun e => absurd (by injection e with e1 e2; rw [e1, e2]) c⟩
  · have := length_putK kvs [.inr x, .inl (n : Int)] v
    have := h.2
    rw [List.length_append]; show _ ≤ _ + 1; omega
/-- the wish that the lambda is: not laid -/
def spWS (cvs : List V) : Sp := fun vs H Q _ => ∃ (d : Addr) (x : Str) (n : Nat) (kvs : List (List Key × V)), cvs = [.ref d] ∧ vs = [.str x, .int (n : Nat)] ∧ H d = some (.dT kvs) ∧ ∀ H', Same H H' → Q (.bl (!(valV kvs [.inr x, .inl (n : Int)]).isSome)) H'
/-- the wish that the other lambda is: no laying without it -/
def spWE (K : PySem.W.Frag) (cvs : List V) : Sp := fun vs H Q _ => ∃ (a b : Addr) (x : Str) (n : Nat) (ls hs : List LotT) (nms : List Str), cvs = [.ref a, .ref b] ∧ vs = [.str x, .int (n : Nat)] ∧ LTH H a ls ∧ LTH H b hs ∧ n < ls.length ∧ NsOk nms ∧ (∀ l ∈ ls, LotOk nms l) ∧ (∀ h ∈ hs, LotOk nms h) ∧ ls.length ≤ 900 ∧ hs.length ≤ 1000 ∧
  ∀ H', Same H H' → Q (.bl (stuckN (silN ls x n) hs).isSome) H'
theorem sil_lots {nms : List Str} {ls : List LotT} (h : ∀ l ∈ ls, LotOk nms l) (x : Str) (n : Nat) : (∀ l ∈ silN ls x n, LotOk nms l) ∧ (silN ls x n).length ≤ ls.length + 1 := by
  unfold silN
  constructor
  · intro l hl
    rw [List.mem_append, List.mem_append] at hl
    rcases hl with (hl | hl) | hl
    · exact h l (List.mem_of_mem_take hl)
    · split at hl
      · cases hl
      · rename_i c
        rw [List.mem_singleton.mp hl]
        have hm : ls.getD n [] ∈ ls := by
          cases e : ls[n]? with
          | none =>
            refine absurd ?_ c
            unfold restN
            rw [List.getD_eq_getElem?_getD, e]; rfl
          | some k => rw [List.getD_eq_getElem?_getD, e]; exact List.mem_of_getElem? e
        exact (h _ hm).sub List.filter_sublist c
    · exact h l (List.mem_of_mem_drop hl)
  · rw [List.length_append, List.length_append, List.length_take, List.length_drop]
    split
    · show _ + 0 + _ ≤ _; omega
    · show _ + 1 + _ ≤ _; omega
theorem dp_lots {K : PySem.W.Frag} {H : Hp} {its : List V} {ls : List LotT} (al : All2 (TupS K H) its ls) : DpAll K H its (ls.map fun l => PyData.tuple (l.map .str)) := dp_all (f := fun l : LotT => PyData.tuple (l.map .str)) (fun _ l ⟨b, e, t⟩ => by rw [e]; exact .tup t (dp_strs l)) al
section
variable {P : Program} {w : World} {K : PySem.W.Frag} {mg : Str → Option Value} {base : Heap}
theorem lam_SI : LmC P w K mg base 3 qSI (lPrm lamSI) (lBod lamSI) (lSc lamSI) ["name", "number"] ["laid"] spWS where
  kind := rfl
  co := rfl
  gen := rfl
  noc := by decide +kernel
  loc := by decide +kernel
  fre := by decide +kernel
  nd := by decide +kernel
  len := fun cvs vs H Q E h => by
    obtain ⟨_, _, _, _, _, rfl, _⟩ := h
    rfl
  bind := fun us cl pm cv ct h => by
    match us, h with
    | [a, b], _ => rfl
  run := fun cvs f c cl A outer s H vs Q E hr _ h => by
    obtain ⟨d, x, n, kvs, rfl, rfl, ed, q⟩ := h
    refine ⟨_, pe_cmp (pc_dnotin (hu_of hr) (pe_tup (pa_cons (pv 0) (pa_cons (pv 1) pa_nil))) (pv 2)) rfl, ?_⟩
    refine ⟨_, rfl, _, rfl, by show 2 ≤ sizeLine; decide, fun t ht => ?_⟩
    have s1 := same_new ht (.tup [V.str x, .int (n : Nat)])
    exact ⟨_, rfl, d, _, rfl, DGet.t (k := [.inr x, .inl (n : Int)]) (s1 _ _ ed) upd_same, q _ s1⟩
theorem lam_HE {C : Addr} (C_silenced_tale : Cl P w K mg base "silenced_tale" ["lots", "name", "number"] [] 1 (spSil K)) (C_stuck_at : Cx_ P w K mg base "stuck_at" ["lots", "heard"] 5 (spStuck K C)) : LmC P w K mg base 5 qHE (lPrm lamHE) (lBod lamHE) (lSc lamHE) ["name", "number"] ["lots", "heard"] (spWE K) where
  kind := rfl
  co := rfl
  gen := rfl
  noc := by decide +kernel
  loc := by decide +kernel
  fre := by decide +kernel
  nd := by decide +kernel
  len := fun cvs vs H Q E h => by
    obtain ⟨_, _, _, _, _, _, _, _, rfl, _⟩ := h
    rfl
  bind := fun us cl pm cv ct h => by
    match us, h with
    | [a, b], _ => rfl
  run := fun cvs f c cl A outer s H vs Q E hr _ h => by
    obtain ⟨a, b, x, n, ls, hs, nms, rfl, rfl, ha, hb, hn, nok, okl, okh, ll, lh, q⟩ := h
    refine ⟨_, pe_cmpR op_notN (pe_useX C_stuck_at hr (fun _ => passF) rfl (pa_cons (pe_use C_silenced_tale (hr.mono (by decide)) rfl (pa_cons (pv 2) (pa_cons (pv 0) (pa_cons (pv 1) pa_nil)))) (pa_cons (pv 3) pa_nil))) pe_non (nomark _), ?_⟩
    have lm : ∀ l ∈ ls, l.length ≤ 1000 := fun l hl => by have := lot_len nok (okl l hl); omega
    refine ⟨_, rfl, _, rfl, _, rfl, a, x, n, ls, rfl, ha.lt, hn, by omega, lm, fun p its H1 s1 ep al1 => ?_⟩
    obtain ⟨sl, sn⟩ := sil_lots okl x n
    obtain ⟨jts, eb, bl⟩ := hb.same s1
    have d1 : Dp K H1 (.ref p) (tD (silN ls x n)) := .tup (SqT.of ep) (dp_lots al1)
    have d2 : Dp K H1 (.ref b) (tD hs) := .tup (SqT.of eb) (dp_lots (bl.imp fun _ _ h => lotH_S h))
    have no := no_first (tale_D nok sl) (tale_D nok okh)
    have ti : TIn K H1 (.ref p) (.ref b) (tD (silN ls x n)) (tD hs) (silN ls x n) hs := ⟨d1, d2, tale_sm nok sl (by omega), tale_sm nok okh lh, fun _ => ⟨p, b, rfl, rfl, ⟨its, ep, al1⟩, ⟨jts, eb, bl.imp fun _ _ h => lotH_S h⟩⟩, by omega, lh, fun h hh => by have := lot_len nok (okh h hh); omega, fun l hl => by have := lot_len nok (sl l hl); omega⟩
    refine ⟨_, rfl, .ref p, .ref b, _, _, _, _, rfl, ti, fun _ H2 s2 => ?_, fun k hk => by rw [no] at hk; cases hk⟩
    have q := q H2 (s1.trans s2)
    cases h : stuckN (silN ls x n) hs with
    | none => rw [h] at q; refine ⟨rfl, ?_⟩; rw [show (!decide (optV none = V.non)) = false by rw [decide_eq_true (show optV none = V.non from rfl)]; rfl]; exact q
    | some k => rw [h] at q; refine ⟨rfl, ?_⟩; rw [show (!decide (optV (some k) = V.non)) = true by rw [decide_eq_false (fun z => by cases z)]; rfl]; exact q
end
end K6

namespace K6
open PySem PySem.Spec PyProof.Rows L2 Hb St Sq Ow En Zp RZ Rd Xb Da Lg Cq LamX Lc Lp
def oneLog (p : LotT × List Nat) : List (Str × Nat) := p.2.flatMap fun n => p.1.map fun x => (x, n)
def logJ (ls hs : List LotT) (i : Nat) : List (Str × Nat) := ((hs.zip (mayL ls hs)).take i).flatMap oneLog
theorem logJ_succ {ls hs : List LotT} {i : Nat} {g : LotT} {ns : List Nat} (h1 : hs[i]? = some g) (h2 : (mayL ls hs)[i]? = some ns) : logJ ls hs (i + 1) = logJ ls hs i ++ oneLog (g, ns) := by
  unfold logJ
  rw [List.take_add_one, zip_atG h1 h2, List.flatMap_append]
  simp
theorem log_mem {ls hs : List LotT} (no : stuckN ls hs = none) (x : Str) (n : Nat) : (x, n) ∈ logJ ls hs hs.length ↔ ∃ (i : Nat) (g : LotT) (ns : List Nat), hs[i]? = some g ∧ (mayL ls hs)[i]? = some ns ∧ n ∈ ns ∧ x ∈ g := by
  unfold logJ
  rw [List.take_of_length_le (by rw [List.length_zip]; omega), List.mem_flatMap]
  constructor
  · rintro ⟨p, hp, h⟩
    obtain ⟨i, ei⟩ := List.mem_iff_getElem?.mp hp
    obtain ⟨e1, e2⟩ := List.getElem?_zip_eq_some.mp ei
    unfold oneLog at h
    obtain ⟨m, hm, h⟩ := List.mem_flatMap.mp h
    obtain ⟨y, hy, e⟩ := List.mem_map.mp h
    injection e with e3 e4
    subst e3 e4
    exact ⟨i, p.1, p.2, e1, e2, hm, hy⟩
  · rintro ⟨i, g, ns, e1, e2, hn, hx⟩
    exact ⟨(g, ns), List.mem_iff_getElem?.mpr ⟨i, zip_atG e1 e2⟩, List.mem_flatMap.mpr ⟨n, hn, List.mem_map.mpr ⟨x, hx, rfl⟩⟩⟩
theorem may_small {ls hs : List LotT} (no : stuckN ls hs = none) {i : Nat} {ns : List Nat} (h : (mayL ls hs)[i]? = some ns) : ns.length ≤ ls.length := by
  have hi : i < hs.length := by rw [← may_len no]; exact (List.getElem?_eq_some_iff.mp h).1
  have e2 := List.getElem?_eq_getElem (l := grL ls hs) (i := i) (by rw [gr_lenN no]; exact hi)
  have e3 := List.getElem?_eq_getElem (l := bkL ls hs) (i := i) (by rw [bk_lenN no]; exact hi)
  rw [may_at (List.getElem?_eq_getElem hi) e2 e3] at h
  cases h
  refine Nat.le_trans (List.length_filter_le _ _) ?_
  rw [List.length_map, List.length_range]
  have hb : i < (bkL ls hs).length := by rw [bk_lenN no]; exact hi
  have := (Ks.bk_isLay (stuck_lays no)).below ((bkL ls hs)[i]'hb) (List.getElem_mem hb)
  omega
theorem one_len {g : LotT} {ns : List Nat} (hn : ns.length ≤ 10) (hg : g.length ≤ 4) : (oneLog (g, ns)).length ≤ 40 := by
  have : ∀ l : List Nat, (l.flatMap fun n => g.map fun x => (x, n)).length ≤ l.length * 4 := fun l => by
    induction l with
    | nil => exact Nat.le_refl _
    | cons a l ih => rw [List.flatMap_cons, List.length_append, List.length_map, List.length_cons]; omega
  have := this ns
  unfold oneLog
  show (ns.flatMap fun n => g.map fun x => (x, n)).length ≤ 40
  omega
theorem frSI : ∀ y ∈ (lSc lamSI).names, y.2 = .free → (defScope s_silent_for_sure).names.lookup y.1 = some .cell ∨ (defScope s_silent_for_sure).names.lookup y.1 = some .free := by decide +kernel
theorem frHE : ∀ y ∈ (lSc lamHE).names, y.2 = .free → (defScope s_heard_for_sure).names.lookup y.1 = some .cell ∨ (defScope s_heard_for_sure).names.lookup y.1 = some .free := by decide +kernel
theorem at_natR {ns : List Nat} {i : Nat} {y : V} (ey : (ns.map natV)[i]? = some y) : ∃ n, ns[i]? = some n ∧ y = .int (n : Nat) := by
  rw [List.getElem?_map] at ey
  cases c : ns[i]? with
  | none => rw [c] at ey; cases ey
  | some x => rw [c] at ey; exact ⟨x, rfl, (Option.some.inj ey).symm⟩
theorem LTH.ext {H H' : Hp} {a : Addr} {ls : List LotT} (h : LTH H a ls) (x : ExtN H H') : LTH H' a ls := let ⟨its, e, al⟩ := h; ⟨its, x _ _ e notbl, al.imp fun _ _ r => lotH_ext r x⟩
/-- two tales, if they are such -/
structure Good (H : Hp) (v u : V) (ls hs : List LotT) (nms : List Str) : Prop where
  ex : ∃ a b, v = .ref a ∧ u = .ref b ∧ LTH H a ls ∧ LTH H b hs
  nok : NsOk nms
  okl : ∀ l ∈ ls, LotOk nms l
  okh : ∀ h ∈ hs, LotOk nms h
  ll : ls.length ≤ 10
  lh : hs.length ≤ 10
theorem Good.same {H H' : Hp} {v u : V} {ls hs : List LotT} {nms : List Str} (g : Good H v u ls hs nms) (s : Same H H') : Good H' v u ls hs nms :=
  ⟨let ⟨a, b, e1, e2, h1, h2⟩ := g.ex; ⟨a, b, e1, e2, h1.same s, h2.same s⟩, g.nok, g.okl, g.okh, g.ll, g.lh⟩
def spSure (K : PySem.W.Frag) (C R : Addr) (T : List (Addr × Str)) (res : List LotT → List LotT → List (Str × Nat)) : Sp := fun vs H Q E => ∃ (v u : V) (d e : PyData) (ls hs : List LotT) (nms : List Str), vs = [v, u] ∧ TIn K H v u d e ls hs ∧ Tabs T H ∧ (firstNo [d, e] = none → Good H v u ls hs nms) ∧
  (firstNo [d, e] = none → stuckN ls hs = none → ∀ r its H', ExtN H H' → Tabs T H' → H' r = some (.tup its) → All2 (PrS H') its (res ls hs) → Q (.ref r) H') ∧ Refd K C R E H d e ls hs
def silentF (ls hs : List LotT) : List (Str × Nat) := srtE (sel ls fun x n => !(laysL ls hs).any (usesB hs x n))
def heardF (ls hs : List LotT) : List (Str × Nat) := srtE (sel ls fun x n => (stuckN (silN ls x n) hs).isSome)
section
variable {P : Program} {w : World} {K : PySem.W.Frag} {mg : Str → Option Value} {base : Heap}
theorem ok_HE {f c Pt C R : Addr} {T : List (Addr × Str)} {oc : Value} {od an : Option Addr} {osl : Array (Option Value)} {dV kV doc pm ct : Value}
    (lk : K.lookup f = some ⟨oc, od, .func (PySem.W.fnOf "heard_for_sure" "heard_for_sure" (defArgs s_heard_for_sure) (defBody s_heard_for_sure) (defScope s_heard_for_sure) dV kV doc pm an (.ref c) ct), osl⟩) (cd : PySem.W.codeIn K (.ref c) "heard_for_sure" = true) (TB : TabB base mg c Pt)
    (inT : (Pt, qHE) ∈ T) (one : ∀ y ∈ T, y.1 = Pt → y.2 = qHE)
    (C_need_laying : Cx_ P w K mg base "need_laying" ["lots", "heard"] 6 (spNeedL K C R)) (C_silenced_tale : Cl P w K mg base "silenced_tale" ["lots", "name", "number"] [] 1 (spSil K)) (C_stuck_at : Cx_ P w K mg base "stuck_at" ["lots", "heard"] 5 (spStuck K C)) (HO : Ho P w K mg base CX0 "events_where" ["lots", "is_wanted"] 8 (spWhO P w K mg)) :
    FnOk P w K mg base (L2.CX P w) 9 f (PySem.W.fnOf "heard_for_sure" "heard_for_sure" (defArgs s_heard_for_sure) (defBody s_heard_for_sure) (defScope s_heard_for_sure) dV kV doc pm an (.ref c) ct) ["lots", "heard"] (spSure K C R T heardF) := by
  refine okCD lk cd sc_heard_for_sure (fun vs H Q E h => ?_) (fun A outer s H vs Q E hr h => ?_)
  · obtain ⟨_, _, _, _, _, _, _, rfl, _⟩ := h
    rfl
  · obtain ⟨v, u, d, e, ls, hs, nms, rfl, ti, tabs, gd, q, qr⟩ := h
    refine ⟨_, (pss_cons (ps_expr (pe_useX C_need_laying (hr.mono (by decide)) (fun σ => passAt (takes_of rfl rfl rfl rfl) σ) rfl (pa_cons (pv 0) (pa_cons (pv 1) pa_nil))))
      (pss_one (ps_ret (pe_ho HO (fun _ => rfl) hr pass0 rfl (E := E0) (pa_cons (pv 0) (pa_cons (pe_clo (T := T) TB rfl inT one rfl frHE) pa_nil)))))), ?_⟩
    refine ⟨_, rfl, _, rfl, v, u, d, e, ls, hs, rfl, ti, fun no st H1 s1 => ?_, qr⟩
    have q := q no st
    have g1 := (gd no).same s1
    obtain ⟨a, b, rfl, rfl, ha, hb⟩ := g1.ex
    refine ⟨_, rfl, tabs.ext (fun b o e => s1 b o e), fun cf cc H2 x2 t2 n2 c2 => ?_⟩
    have s3 := same_new n2 (CloO qHE (lPrm lamHE) (lBod lamHE) (lSc lamHE) (cloFrom (envOfC "heard_for_sure" (defScope s_heard_for_sure) s.heap.objs.size f (.ref c)).cells (lSc lamHE).names []) cc cf)
    refine fun bs le cel => ?_
    have cvs := Cels.of (cvs := [.ref a, .ref b]) (caps := ["lots", "heard"]) cel (sc := lSc lamHE) frHE (by decide +kernel) rfl (fun i x y e1 e2 => by
      match i, e1, e2 with
      | 0, e1, e2 => cases e1; cases e2; exact ⟨0, rfl, rfl⟩
      | 1, e1, e2 => cases e1; cases e2; exact ⟨1, rfl, rfl⟩)
    have cv := CallV.clo (lv := 7) (lam_HE (Cl.up C_silenced_tale le) (Cx_.up C_stuck_at le)) cvs (H := upd H2 cf _) upd_same (s3 _ _ c2) (by decide)
    have ha3 := (ha.ext x2).same s3
    have hb3 := (hb.ext x2).same s3
    have gll := g1.ll
    have glh := g1.lh
    refine ⟨a, cf, ls, fun x n => (stuckN (silN ls x n) hs).isSome, _, rfl, ha3, by omega, fun l hl => by have := lot_len g1.nok (g1.okl l hl); omega, cv, fun n hn x hx H7 Q7 s7 q7 => ?_, fun r its H7 s7 er al => ?_⟩
    · exact ⟨a, b, x, n, ls, hs, nms, rfl, rfl, ha3.same s7, hb3.same s7, hn, g1.nok, g1.okl, g1.okh, by omega, by omega, q7⟩
    · exact q r its H7 (fun b o e n => s7 _ _ (s3 _ _ (x2 _ _ (s1 _ _ e) n))) (t2.ext fun b o e => s7 _ _ (s3 _ _ e)) er al
theorem ok_SI {f c Pt C R : Addr} {T : List (Addr × Str)} {oc : Value} {od an : Option Addr} {osl : Array (Option Value)} {dV kV doc pm ct : Value}
    (lk : K.lookup f = some ⟨oc, od, .func (PySem.W.fnOf "silent_for_sure" "silent_for_sure" (defArgs s_silent_for_sure) (defBody s_silent_for_sure) (defScope s_silent_for_sure) dV kV doc pm an (.ref c) ct), osl⟩) (cd : PySem.W.codeIn K (.ref c) "silent_for_sure" = true) (TB : TabB base mg c Pt)
    (inT : (Pt, qSI) ∈ T) (one : ∀ y ∈ T, y.1 = Pt → y.2 = qSI) (n_zip : mg "zip" = none)
    (C_may_lie : Cx_ P w K mg base "may_lie" ["lots", "heard"] 8 (spMay K C R)) (HO : Ho P w K mg base CX0 "events_where" ["lots", "is_wanted"] 8 (spWhO P w K mg)) :
    FnOk P w K mg base (L2.CX P w) 9 f (PySem.W.fnOf "silent_for_sure" "silent_for_sure" (defArgs s_silent_for_sure) (defBody s_silent_for_sure) (defScope s_silent_for_sure) dV kV doc pm an (.ref c) ct) ["lots", "heard"] (spSure K C R T silentF) := by
  refine okCD lk cd sc_silent_for_sure (fun vs H Q E h => ?_) (fun A outer s H vs Q E hr h => ?_)
  · obtain ⟨_, _, _, _, _, _, _, rfl, _⟩ := h
    rfl
  · obtain ⟨v, u, d, e, ls, hs, nms, rfl, ti, tabs, gd, q, qr⟩ := h
    refine ⟨_, (pss_cons (ps_set (i := 6) sc_silent_for_sure.nd rfl (Or.inr rfl) (pe_dnewT))
    (Evl.pss_cut (ps_for (passes_of rfl) rfl (pi_zipA (by rfl) n_zip (pa_cons (pv 1) (pa_cons (pe_useX C_may_lie hr (fun σ => passAt (takes_of rfl rfl rfl rfl) σ) rfl (pa_cons (pv 0) (pa_cons (pv 1) pa_nil))) pa_nil))) (pg_tup rfl (pgs_cons (pg_name (i := 2) sc_silent_for_sure.nd rfl (Or.inl rfl)) (pgs_cons (pg_name (i := 3) sc_silent_for_sure.nd rfl (Or.inl rfl)) pgs_nil)))
      (pss_one (ps_for (passes_of rfl) rfl (pi_seq (pv 3)) (pg_name (i := 4) sc_silent_for_sure.nd rfl (Or.inl rfl))
      (pss_one (ps_for (passes_of rfl) rfl (pi_seq (pv 2)) (pg_name (i := 5) sc_silent_for_sure.nd rfl (Or.inl rfl))
      (pss_one (ps_dput (hu_of hr) (pv 6) (pe_tup (pa_cons (pv 5) (pa_cons (pv 4) pa_nil))) pe_bl rfl)))))))
    (pss_one (ps_ret (pe_ho HO (fun _ => rfl) hr pass0 rfl (E := E0) (pa_cons (pv 0) (pa_cons (pe_clo (T := T) TB rfl inT one rfl frSI) pa_nil))))))), ?_⟩
    intro dd kd
    have s1 := same_new kd (.dT [])
    have ed1 : upd H dd (.dT []) dd = some (.dT []) := upd_same
    have kin : ∀ {H'}, Kept dd (upd H dd (.dT [])) H' → Same H H' := fun {H'} k b o e => k b o (s1 _ _ e) (ne_of_none e kd)
    generalize upd H dd (.dT []) = H1 at s1 ed1 kin ⊢
    let S : Option V → Option V → Option V → Option V → L2.St := fun o2 o3 o4 o5 => [some v, some u, o2, o3, o4, o5, some (.ref dd)]
    let IV : List (Str × Nat) → Hp → Prop := fun ps H' => Kept dd H1 H' ∧ ∃ kvs, H' dd = some (.dT kvs) ∧ Log kvs ps
    refine ⟨fun σ H' => (∃ o2 o3 o4 o5, σ = S o2 o3 o4 o5) ∧ (firstNo [d, e] = none ∧ stuckN ls hs = none) ∧ IV (logJ ls hs hs.length) H', ?_, ?_⟩
    · refine ⟨_, rfl, _, rfl, _, rfl, v, u, d, e, ls, hs, rfl, ti.same s1, fun no st mp its H2 s2 e2 al2 => ?_, ⟨fun m a b dd H' s' e' => qr.1 m a b dd H' (s1.trans s') e', fun k a dd H' s' e' => qr.2 k a dd H' (s1.trans s') e'⟩⟩
      have g := gd no
      obtain ⟨a, b, rfl, rfl, ha, hb⟩ := g.ex
      obtain ⟨bits, eb, bl⟩ := hb
      have lm := may_len st
      have l1 := bl.len
      have l2 := al2.len
      have s02 := s1.trans s2
      have ned : b ≠ dd := ne_of_none eb kd
      have nmp : mp ≠ dd := fun z => by rw [z, s2 _ _ ed1] at e2; cases e2
      refine ⟨b, mp, bits, its, rfl, .inr ⟨SqT.of (s02 _ _ eb), SqT.of e2, ?_⟩⟩
      have lgl := g.lh
      refine for_zipT (by omega) (fun i σ H' => (∃ o2 o3 o4 o5, σ = S o2 o3 o4 o5) ∧ Kept dd H2 H' ∧ (logJ ls hs i).length ≤ i * 40 ∧ IV (logJ ls hs i) H') ⟨⟨_, _, _, _, rfl⟩, Kept.refl _ _, Nat.zero_le _, fun b o e n => s2 _ _ e, [], s2 _ _ ed1, Log.nil⟩ (fun i σ H' pv => ⟨SqT.of (pv.2.1 _ _ (s02 _ _ eb) ned), SqT.of (pv.2.1 _ _ e2 nmp)⟩) ?_ ?_
      · rintro i x y t σ H3 ex ey ⟨⟨o2, o3, o4, o5, rfl⟩, k23, li, k3, kvs, ed3, lg⟩ ht
        obtain ⟨l, el, lb, rfl, elb⟩ := bl.get ex
        obtain ⟨ns, ens, nb, rfl, enb⟩ := al2.get ey
        have hi := (List.getElem?_eq_some_iff.mp el).1
        have lns := may_small st ens
        have lgl2 := g.ll
        have ll4 := lot_len g.nok (g.okh l (at_mem el))
        have s4 := same_new ht (.tup [V.ref lb, .ref nb])
        refine ⟨t, _, rfl, SqT.of upd_same, rfl, _, _, rfl, _, _, rfl, rfl, ?_⟩
        have ed4 := s4 _ _ ed3
        have k4 : Kept dd H1 (upd H3 t (.tup [V.ref lb, .ref nb])) := k3.trans (Same.kept s4)
        have k24 : Kept dd H2 (upd H3 t (.tup [V.ref lb, .ref nb])) := k23.trans (Same.kept s4)
        generalize upd H3 t (.tup [V.ref lb, .ref nb]) = H4 at s4 ed4 k4 k24 ⊢
        have nnb : nb ≠ dd := fun z => by rw [z, s2 _ _ ed1] at enb; cases enb
        have nlb : lb ≠ dd := ne_of_none elb kd
        have enb4 := k24 _ _ enb nnb
        have elb4 := kin k4 _ _ elb
        refine ⟨_, rfl, nb, _, rfl, .inr (SqT.of enb4), fun J SS W z0 => ?_⟩
        refine for_sq W (fun j σ H' => (∃ o4 o5, σ = S (some (.ref lb)) (some (.ref nb)) o4 o5) ∧ Kept dd H4 H' ∧ IV (logJ ls hs i ++ oneLog (l, ns.take j)) H') ⟨⟨_, _, rfl⟩, Kept.refl _ _, k4, kvs, ed4, by rw [List.take_zero, show oneLog (l, []) = [] from rfl, List.append_nil]; exact lg⟩ (fun j σ H' pv => W.keep (fun o e => pv.2.1 _ _ e nnb) z0) ?_ ?_
        · rintro j σ H5 y2 ey2 ⟨⟨o4, o5, rfl⟩, k45, k5, kvs5, ed5, lg5⟩
          obtain ⟨n, en, rfl⟩ := at_natR ey2
          have elb5 := k45 _ _ elb4 nlb
          have hj := (List.getElem?_eq_some_iff.mp en).1
          have lo := one_len (g := l) (ns := ns.take j) (by rw [List.length_take]; omega) (by omega)
          have es : oneLog (l, ns.take (j + 1)) = oneLog (l, ns.take j) ++ l.map fun x => (x, n) := by
            unfold oneLog
            show (ns.take (j + 1)).flatMap _ = (ns.take j).flatMap _ ++ _
            rw [List.take_add_one, en, List.flatMap_append]
            simp
          refine ⟨_, rfl, lb, _, rfl, .inr (SqT.of elb5), fun J2 S2 W2 z2 => ?_⟩
          refine for_sq W2 (fun k σ H' => (∃ o5, σ = S (some (.ref lb)) (some (.ref nb)) (some (.int (n : Nat))) o5) ∧ Kept dd H5 H' ∧ IV (logJ ls hs i ++ oneLog (l, ns.take j) ++ (l.take k).map fun x => (x, n)) H') ⟨⟨_, rfl⟩, Kept.refl _ _, k5, kvs5, ed5, by rw [List.take_zero, List.map_nil, List.append_nil]; exact lg5⟩ (fun k σ H' pv => W2.keep (fun o e => pv.2.1 _ _ e nlb) z2) ?_ ?_
          · rintro k σ H6 y3 ey3 ⟨⟨o5, rfl⟩, k56, k6, kvs6, ed6, lg6⟩
            obtain ⟨x, ex3, rfl⟩ := str_at ey3
            have hk := (List.getElem?_eq_some_iff.mp ex3).1
            refine ⟨_, rfl, _, rfl, _, rfl, by show 2 ≤ sizeLine; decide, fun t2 ht2 => ?_⟩
            have s7 := same_new ht2 (.tup [V.str x, .int (n : Nat)])
            have e7 : upd H6 t2 (.tup [V.str x, .int (n : Nat)]) t2 = some (.tup [V.str x, .int (n : Nat)]) := upd_same
            have ed7 := s7 _ _ ed6
            have k7 := k6.trans (Same.kept s7)
            have k57 := k56.trans (Same.kept s7)
            generalize upd H6 t2 (.tup [V.str x, .int (n : Nat)]) = H7 at s7 e7 ed7 k7 k57 ⊢
            have lk := lg6.2
            rw [List.length_append, List.length_append, List.length_map, List.length_take] at lk
            refine ⟨dd, _, rfl, DPut.t (k := [.inr x, .inl (n : Int)]) ed7 e7 (by rw [sizeLine_eq]; omega), ⟨_, rfl⟩, k57.trans kept_upd, k7.trans kept_upd, _, upd_same, ?_⟩
            have := lg6.put x n (.bl true)
            rw [List.append_assoc] at this
            rw [List.take_add_one, ex3, List.map_append]
            exact this
          · rintro σ H6 ⟨⟨o5, rfl⟩, k56, k6, iv⟩
            rw [List.length_map, List.take_length, List.append_assoc, ← es] at iv
            exact ⟨⟨_, _, rfl⟩, k45.trans k56, k6, iv⟩
        · rintro σ H5 ⟨⟨o4, o5, rfl⟩, k45, k5, iv⟩
          rw [List.length_map, List.take_length, ← logJ_succ el ens] at iv
          refine ⟨⟨_, _, _, _, rfl⟩, k24.trans k45, ?_, k5, iv⟩
          rw [logJ_succ el ens, List.length_append]
          have := one_len (g := l) (ns := ns) (by omega) (by omega)
          omega
      · rintro σ H3 ⟨⟨o2, o3, o4, o5, rfl⟩, _, _, iv⟩
        rw [l1] at iv
        exact ⟨⟨_, _, _, _, rfl⟩, ⟨no, st⟩, iv⟩
    · rintro σ H2 ⟨⟨o2, o3, o4, o5, rfl⟩, ⟨no, st⟩, k2, kvs, ed2, lg⟩
      have q := q no st
      have s02 := kin k2
      have g1 := (gd no).same s02
      obtain ⟨a, b, rfl, rfl, ha, hb⟩ := g1.ex
      have wq : ∀ (x : Str) (n : Nat), (!(valV kvs [.inr x, .inl (n : Int)]).isSome) = !(laysL ls hs).any (usesB hs x n) := fun x n => by
        congr 1
        rw [Bool.eq_iff_iff, lg.1 x n, log_mem st, may_iff st, List.any_eq_true]
      refine ⟨_, rfl, tabs.ext (fun b o e => s02 b o e), fun cf cc H3 x3 t3 n3 c3 => ?_⟩
      have s4 := same_new n3 (CloO qSI (lPrm lamSI) (lBod lamSI) (lSc lamSI) (cloFrom (envOfC "silent_for_sure" (defScope s_silent_for_sure) s.heap.objs.size f (.ref c)).cells (lSc lamSI).names []) cc cf)
      refine fun bs le cel => ?_
      have cvs := Cels.of (cvs := [.ref dd]) (caps := ["laid"]) cel (sc := lSc lamSI) frSI (by decide +kernel) rfl (fun i x y e1 e2 => by
        match i, e1, e2 with
        | 0, e1, e2 => cases e1; cases e2; exact ⟨6, rfl, rfl⟩)
      have cv := CallV.clo (P := P) (w := w) (K := K) (mg := mg) (lv := 7) lam_SI cvs (H := upd H3 cf _) upd_same (s4 _ _ c3) (by decide)
      have ha3 := (ha.ext x3).same s4
      have ed4 := s4 _ _ (x3 _ _ ed2 (fun ps z => by cases z))
      have gll := g1.ll
      refine ⟨a, cf, ls, fun x n => !(laysL ls hs).any (usesB hs x n), _, rfl, ha3, by omega, fun l hl => by have := lot_len g1.nok (g1.okl l hl); omega, cv, fun n hn x hx H7 Q7 s7 q7 => ?_, fun r its H7 s7 er al => ?_⟩
      · exact ⟨dd, x, n, kvs, rfl, rfl, s7 _ _ ed4, fun H' s' => by rw [wq]; exact q7 H' s'⟩
      · exact q r its H7 (fun b o e n => s7 _ _ (s4 _ _ (x3 _ _ (s02 _ _ e) n))) (t3.ext fun b o e => s7 _ _ (s4 _ _ e)) er al
end
end K6

/-! len(set(x)) of ints, list(d.values()), sorted(d) of a dict by pairs, d.setdefault of a dict by tuples -/
namespace L2
open PySem PySem.Spec PyProof.Rows PySem.W
theorem met_mem (val : Nat → Int) (x : Int) : ∀ i, x ∈ firstMet val i ↔ ∃ j, j < i ∧ val j = x
  | 0 => by rw [firstMet_zero]; simp
  | i + 1 => by
    rw [firstMet_succ]
    unfold step_dedup
    have ih := met_mem val x i
    split
    · next h =>
      rw [ih]
      constructor
      · rintro ⟨j, hj, e⟩; exact ⟨j, Nat.lt_succ_of_lt hj, e⟩
      · rintro ⟨j, hj, e⟩
        rcases Nat.lt_succ_iff_lt_or_eq.mp hj with hj | hj
        · exact ⟨j, hj, e⟩
        · subst hj
          obtain ⟨y, hy, ey⟩ := List.any_eq_true.mp h
          have : y = val j := eq_of_beq ey
          rw [this, e] at hy
          exact ih.mp hy
    · rw [List.mem_append, ih, List.mem_singleton]
      constructor
      · rintro (⟨j, hj, e⟩ | e)
        · exact ⟨j, Nat.lt_succ_of_lt hj, e⟩
        · exact ⟨i, Nat.lt_succ_self i, e.symm⟩
      · rintro ⟨j, hj, e⟩
        rcases Nat.lt_succ_iff_lt_or_eq.mp hj with hj | hj
        · exact .inl ⟨j, hj, e⟩
        · subst hj; exact .inr e.symm
theorem met_nodup (val : Nat → Int) : ∀ i, (firstMet val i).Nodup
  | 0 => by rw [firstMet_zero]; exact List.nodup_nil
  | i + 1 => by
    rw [firstMet_succ]
    unfold step_dedup
    split
    · exact met_nodup val i
    · next h =>
      rw [List.nodup_append]
      refine ⟨met_nodup val i, by simp, fun a ha b hb e => h ?_⟩
      rw [List.mem_singleton] at hb
      subst hb
      exact List.any_eq_true.mpr ⟨a, ha, beq_iff_eq.mpr e⟩
theorem ints_of' : ∀ {ns : List Int} {us : List Value}, Vals (ns.map V.int) us → PyProof.Rows.IntsAre us ns
  | [], _, .nil => .nil
  | n :: ns, _, .cons r t => by
    obtain ⟨k, rfl⟩ := r
    exact .cons n k (ints_of' t)
/-- len(set(x)), x a list of ints: how many unlike ones -/
def tLenSetG (K : PySem.W.Frag) (ta : TE) : TE := fun σ H Q => ta σ H fun x H1 => ∃ (l : Addr) (ns : List Int), x = .ref l ∧ SqL K H1 l (ns.map V.int) ∧ ns.length ≤ 4000 ∧ ∀ m : List Int, m.Nodup → (∀ y, y ∈ m ↔ y ∈ ns) → Q (.int (m.length : Nat)) H1
theorem pe_lenSetG {X : Cx} {a : Expr} {ta : TE} {p p2 q pos : Pos} (hg : Gl X "len") (hm : X.mg "len" = none) (hg2 : Gl X "set") (hm2 : X.mg "set" = none) (ha : PE X a ta) (hc : X.calm = true := by rfl)
    (na : starEach [a] X.env = (false, eval a X.env) :: starEach [] X.env := by rfl) : PE X (.Call (.Name "len" p) [.Call (.Name "set" p2) [a] [] q] [] pos) (tLenSetG X.K ta) := by
  refine ⟨fun pins s σ H Q I h => ?_⟩
  refine Call_ (ld_blt I hg hm boot_len ?_)
  refine PyProof.Rows.callWith_builtin1 (PyProof.Rows.args_cons ?_ rfl) rfl rfl
  refine Call_ (ld_blt I hg2 hm2 boot_set ?_)
  refine PyProof.Rows.callWith_type1 (PyProof.Rows.args_cons (thn (ha.run pins s σ H _ I h) fun v s1 ⟨x, H1, I1, r1, q1⟩ => PyProof.Rows.args_nil ?_) na) na rfl
  obtain ⟨l, ns, rfl, hq, hl, q1⟩ := q1
  cases r1
  obtain ⟨its, r, pl, hz⟩ := I1.list hq
  have hlen : its.toArray.size = ns.length := by rw [List.size_toArray, ← r.length, List.length_map]
  refine call_set_list (I1.ok.hd hc) pl.isList (by simpa using ints_of' r) (by rw [hlen]; unfold scanBound; omega) fun h' tk hS hk => ?_
  refine PyProof.Rows.args_nil ?_
  rw [hlen] at hS
  have fl := firstMet_length_le (fun i => ns.getD i 0) ns.length
  have q2 := q1 (firstMet (fun i => ns.getD i 0) ns.length) (met_nodup _ _) fun y => by
    rw [met_mem]
    constructor
    · rintro ⟨j, hj, e⟩
      rw [List.getD_eq_getElem?_getD, List.getElem?_eq_getElem hj] at e
      rw [← e]; exact List.getElem_mem hj
    · intro hy
      obtain ⟨j, hj, e⟩ := List.getElem_of_mem hy
      exact ⟨j, hj, by rw [List.getD_eq_getElem?_getD, List.getElem?_eq_getElem hj, ← e]; rfl⟩
  generalize firstMet (fun i => ns.getD i 0) ns.length = m at hS q2 fl
  obtain ⟨o, es, ep, t, ho, hex, hd, _, _, _, hf, hn⟩ := hS
  have I2 : Inv X pins σ H1 { s1 with heap := h', toks := tk } := I1.kept fun b o e => hk b o (Heap.lt_size e) e
  exact call_len_set ho hex hd hf (by rw [hn] <;> omega) ⟨.int m.length, H1, I2.tok _, ⟨_, by rw [hn]⟩, q2⟩
section
variable {X : Cx} {o e f : Expr} {td ty tx : TE} {apos cpos mpos pos p : Pos}
/-- list(o.values()) -/
def tListVals (td : TE) : TE := fun σ H Q => td σ H fun x H1 => ∃ a kvs, x = V.ref a ∧ Rd H1 a (.dK kvs) ∧ ∀ l, H1 l = none → Q (.ref l) (upd H1 l (.lst (kvs.map (·.2))))
theorem pe_listVals (hc : X.calm = true) (hg : Gl X "list") (hm : X.mg "list" = none) (hd : PE X o td) (hbase : attributeBase o "values" X.env (eval o X.env) = eval o X.env := by rfl) (hline : (apos.endLine == mpos.line) = true := by rfl)
    (hse : starEach [Expr.Call (.Attribute o "values" apos) [] [] mpos] X.env = [(false, eval (Expr.Call (.Attribute o "values" apos) [] [] mpos) X.env)] := by rfl) :
    PE X (.Call (.Name "list" p) [.Call (.Attribute o "values" apos) [] [] mpos] [] pos) (tListVals td) := by
  refine ⟨fun pins s σ H Q I h => ?_⟩
  refine wpAny_Call_Name_kw (ld_blt I hg hm (u := .type "list") (by first | rfl | decide +kernel) ?_ (by first | decide +kernel | decide) (by first | decide +kernel | decide))
  refine PyProof.Rows.callWith_type1 (PyProof.Rows.args_cons (wpAny_Call_method0_late hbase hline (thn (hd.run pins s σ H _ I h) fun v s1 ⟨x, H1, I1, r1, a, kvs, ex, ha, q⟩ => ?_)) hse) hse rfl
  subst ex
  obtain rfl : v = Value.ref a := r1
  obtain ⟨hz, hsys, vs, rel, dof⟩ := dk_rd I1.hok ha
  obtain ⟨ep, dat⟩ := dof.dictAt
  have dat' := dat
  obtain ⟨ob, es, ho, ex, hdat, hko, hpr, hnd⟩ := dat'
  have hl : kvs.length = vs.length := Paired.length rel
  refine ⟨"dict", "dict.values", F.plainAttrs_dict, F.slot_dict_values, F.type_dict_values, ⟨ob, ho, ex.1⟩, fun b e => ?_, Calls.callWith_builtin rfl (PySem.evalArgs_none ?_)⟩
  · cases e
    exact ⟨ob, ho, ex.2.1⟩
  refine call_meetsIn F.slot_dict_values ⟨ob, ho, ex.1⟩ F.entry_dict_values (F.args_dict_values_1 _) (meets_dict_values (mixKind X.prog X.w) a hsys) ⟨⟨vs, dof⟩, ?_⟩
  have k1 : ∀ b u, s1.heap.get? b = some u → (s1.heap.push { cls := .type "dict_values", data := .fields #[.ref a] }).get? b = some u := fun b u e => Heap.get?_push_of_some _ e
  have dat1 : (s1.heap.push { cls := .type "dict_values", data := .fields #[.ref a] }).DictAt (mixKind X.prog X.w) a vs ep := dat.keep k1
  refine PyProof.Rows.args_nil ?_
  refine PySem.W.kdl_call (PySem.W.kdl_values (knd := mixKind X.prog X.w) (r := s1.heap.objs.size) (d := a) (kvs := vs) (ep := ep)) (I1.ok.hd hc) ⟨⟨_, Heap.get?_push_size _ rfl, rfl, rfl⟩, dat1⟩ (by rw [← hl]; exact hz) fun h' tk acc c kp e2 it => ?_
  have hal : acc.toList.length = kvs.length := by rw [Array.length_toList, it.1, hl]
  have rv : Vals (kvs.map (·.2)) acc.toList := by
    have gen : ∀ (ks : List (Key × V)) (us : List Value), us.length = ks.length → (∀ (j : Nat) (v : Value), us[j]? = some v → ∃ k x, ks[j]? = some (k, x) ∧ RelV x v) → Vals (ks.map (·.2)) us := by
      intro ks
      induction ks with
      | nil => intro us hl _; cases us with
        | nil => exact .nil
        | cons _ _ => simp at hl
      | cons q ks ih =>
        intro us hl hv
        cases us with
        | nil => simp at hl
        | cons u us =>
          obtain ⟨k, x, e1, e2⟩ := hv 0 u rfl
          have e1' : q = (k, x) := Option.some.inj e1
          subst e1'
          exact .cons e2 (ih us (by simpa using hl) fun j v e => by simpa using hv (j + 1) v (by simpa using e))
    refine gen kvs acc.toList hal fun j v e => ?_
    obtain ⟨k, hk⟩ := it.2 j v (by rw [← Array.getElem?_toList]; exact e)
    obtain ⟨x, h1, h2⟩ := KV.at' rel hk
    exact ⟨k, x, h1, h2⟩
  have hsz : (s1.heap.push { cls := .type "dict_values", data := .fields #[.ref a] }).objs.size = s1.heap.objs.size + 1 := Heap.size_push _ _
  have hn : H1 (s1.heap.push { cls := .type "dict_values", data := .fields #[.ref a] }).objs.size = none := I1.hok.fresh (by rw [hsz]; exact Nat.le_succ _)
  exact ⟨.ref _, _, I1.laid (t' := tk) (o := .lst (kvs.map (·.2))) (fun b u e => kp b u (k1 b u e)) (by rw [hsz]; exact Nat.le_succ _) ⟨by rw [List.length_map]; exact hz, acc.toList, c, rv, by rw [Array.toArray_toList]; exact e2⟩, rfl, q _ hn⟩
/-- d.setdefault(y, z), d a dict by tuples -/
def tDSetT (td ty tx : TE) : TE := fun σ H Q => td σ H fun x H1 => ∃ a, x = .ref a ∧ IsD H1 a ∧ ty σ H1 fun y H2 => tx σ H2 fun z H3 => ∃ (kvs : List (List Key × V)) (k : List Key) (b : Addr), H3 a = some (.dT kvs) ∧ y = .ref b ∧ H3 b = some (.tup (k.map kV)) ∧ kvs.length < sizeLine ∧
  (∀ v, valV kvs k = some v → Q v H3) ∧ (valV kvs k = none → Q z (upd H3 a (.dT (putK kvs k z))))
theorem pe_dsetT (hu : X.A.units + 1 < cLine) (ho : PE X o td) (he : PE X e ty) (hf : PE X f tx) (m : M2 X o "setdefault" apos e f cpos) : PE X (.Call (.Attribute o "setdefault" apos) [e, f] [] cpos) (tDSetT td ty tx) := by
  refine ⟨fun pins s σ H Q I h => ?_⟩
  refine wpAny_Call_method m.base m.few m.line PySem.F.plainAttrs_dict PySem.F.slot_dict_setdefault PySem.F.type_dict_setdefault (thn (ho.run pins s σ H _ I h) fun u s1 ⟨x, H1, I1, rx, a, ex, d, q1⟩ => ?_)
  subst ex
  obtain rfl : u = Value.ref a := rx
  obtain ⟨t1, t2, _⟩ := isD_at I1 d
  refine ⟨t1, t2, ?_⟩
  rw [m.trees]
  refine Calls.callWith_builtin rfl (Calls.evalArgs_plain (Calls.spliced_cons (thn (he.run pins s1 σ H1 _ I1 q1) fun iv s2 ⟨y, H2, I2, ry, q2⟩ =>
    Calls.spliced_cons (thn (hf.run pins s2 σ H2 _ I2 q2) fun fv s3 ⟨z, H3, I3, rz, kvs, k, b, ea, ey, eb, hl, q3, q4⟩ => Calls.spliced_nil ?_))))
  subst ey
  cases (show iv = Value.ref b from ry)
  obtain ⟨hz0, hd, xs, rel, dd⟩ := dt_of I3.hok ea
  have hz : xs.length ≤ sizeLine := by rw [← Paired.length rel]; exact hz0
  refine call_setdefault_heap (hsz := hz) (tupleKind_room_in1 hu) (key_of I3.hok eb) hd dd (fun p hp => ?_) fun hn h' dd' hs => ?_
  · have rr := rel.val k
    rw [hp] at rr
    cases hv : valV kvs k with
    | none => rw [hv] at rr; exact False.elim rr
    | some v => rw [hv] at rr; exact ⟨v, H3, I3.tok _, rr, q3 v hv⟩
  · have rr := rel.val k
    rw [hn] at rr
    cases hv : valV kvs k with
    | some v => rw [hv] at rr; exact False.elim rr
    | none =>
      have hl2 : (putK kvs k z).length ≤ sizeLine := by have := length_putK kvs k z; omega
      obtain ⟨q, es, ep, hq, h2, h3, h4, _, h5⟩ := dd'
      refine ⟨z, upd H3 a (.dT (putK kvs k z)), d_write I3 (by rw [ea]; exact True.intro) hs ⟨q, hq⟩ ⟨hl2, hd, _, (rel.put k eb rz).keeps fun c ys ec => ?_, q, es, ep, hq, h2, h3, h4, h5⟩, rz, q4 hv⟩
      rw [upd_ne (ne_of ec ea (fun z => nomatch z))]
      exact ec
end
end L2

/-! list(d.values()), d a dict by tuples -/
namespace L2
open PySem PySem.Spec PyProof.Rows PySem.W
section
variable {X : Cx} {o e f : Expr} {td ty tx : TE} {apos cpos mpos pos p : Pos}
/-- list(o.values()), o a dict by tuples -/
def tListValsT (td : TE) : TE := fun σ H Q => td σ H fun x H1 => ∃ a kvs, x = V.ref a ∧ H1 a = some (.dT kvs) ∧ ∀ l, H1 l = none → Q (.ref l) (upd H1 l (.lst (kvs.map (·.2))))
theorem pe_listValsT (hc : X.calm = true) (hg : Gl X "list") (hm : X.mg "list" = none) (hd : PE X o td) (hbase : attributeBase o "values" X.env (eval o X.env) = eval o X.env := by rfl) (hline : (apos.endLine == mpos.line) = true := by rfl)
    (hse : starEach [Expr.Call (.Attribute o "values" apos) [] [] mpos] X.env = [(false, eval (Expr.Call (.Attribute o "values" apos) [] [] mpos) X.env)] := by rfl) :
    PE X (.Call (.Name "list" p) [.Call (.Attribute o "values" apos) [] [] mpos] [] pos) (tListValsT td) := by
  refine ⟨fun pins s σ H Q I h => ?_⟩
  refine wpAny_Call_Name_kw (ld_blt I hg hm (u := .type "list") (by first | rfl | decide +kernel) ?_ (by first | decide +kernel | decide) (by first | decide +kernel | decide))
  refine PyProof.Rows.callWith_type1 (PyProof.Rows.args_cons (wpAny_Call_method0_late hbase hline (thn (hd.run pins s σ H _ I h) fun v s1 ⟨x, H1, I1, r1, a, kvs, ex, ha, q⟩ => ?_)) hse) hse rfl
  subst ex
  obtain rfl : v = Value.ref a := r1
  obtain ⟨hz, hsys, xs, rel, dof⟩ := dt_of I1.hok ha
  have hl : kvs.length = xs.length := Paired.length rel
  obtain ⟨es, ep, raw, hes, hit⟩ := dof.raw
  have raw' := raw
  obtain ⟨ob, ho, ex, hdat⟩ := raw'
  refine ⟨"dict", "dict.values", F.plainAttrs_dict, F.slot_dict_values, F.type_dict_values, ⟨ob, ho, ex.1⟩, fun b e => ?_, Calls.callWith_builtin rfl (PySem.evalArgs_none ?_)⟩
  · cases e
    exact ⟨ob, ho, ex.2.1⟩
  refine call_meetsIn F.slot_dict_values ⟨ob, ho, ex.1⟩ F.entry_dict_values (F.args_dict_values_1 _) (meets_dict_values_raw a hsys) ⟨⟨es, ep, raw⟩, ?_⟩
  have k1 : ∀ b u, s1.heap.get? b = some u → (s1.heap.push { cls := .type "dict_values", data := .fields #[.ref a] }).get? b = some u := fun b u e => Heap.get?_push_of_some _ e
  have raw1 : (s1.heap.push { cls := .type "dict_values", data := .fields #[.ref a] }).DictRaw a es ep := raw.push _
  refine PyProof.Rows.args_nil ?_
  refine PySem.W.kdl_call (KdlSrc.rawValues (r := s1.heap.objs.size) (d := a) (es := es) (ep := ep)) (I1.ok.hd hc) ⟨⟨_, Heap.get?_push_size _ rfl, rfl, rfl⟩, raw1⟩ (by rw [hes, ← hl]; exact hz) fun h' tk acc c kp e2 it => ?_
  have hal : acc.toList.length = kvs.length := by rw [Array.length_toList, it.1, hes, hl]
  have rv : Vals (kvs.map (·.2)) acc.toList := by
    have gen : ∀ (ks : List (List Key × V)) (us : List Value), us.length = ks.length → (∀ (j : Nat) (v : Value), us[j]? = some v → ∃ k x, ks[j]? = some (k, x) ∧ RelV x v) → Vals (ks.map (·.2)) us := by
      intro ks
      induction ks with
      | nil => intro us hl _; cases us with
        | nil => exact .nil
        | cons _ _ => simp at hl
      | cons q ks ih =>
        intro us hl hv
        cases us with
        | nil => simp at hl
        | cons u us =>
          obtain ⟨k, x, e1, e2⟩ := hv 0 u rfl
          have e1' : q = (k, x) := Option.some.inj e1
          subst e1'
          exact .cons e2 (ih us (by simpa using hl) fun j v e => by simpa using hv (j + 1) v (by simpa using e))
    have gen2 : ∀ {kvs : List (List Key × V)} {xs : List (List Key × Addr × Value)}, KT H1 kvs xs → ∀ (j : Nat) (y : List Key × Addr × Value), xs[j]? = some y → ∃ k x, kvs[j]? = some (k, x) ∧ RelV x y.2.2 := by
      intro kvs xs rel
      induction rel with
      | nil => intro j y e; simp at e
      | cons r t ih =>
        intro j y e
        cases j with
        | zero =>
          simp only [List.getElem?_cons_zero, Option.some.injEq] at e
          subst e
          exact ⟨_, _, rfl, r.2.2⟩
        | succ j => simpa using ih j y (by simpa using e)
    refine gen kvs acc.toList hal fun j v e => ?_
    obtain ⟨hi, hv⟩ := it.2 j v (by rw [← Array.getElem?_toList]; exact e)
    obtain ⟨y, h1, _, h2, _⟩ := hit j hi
    obtain ⟨k, x, g1, g2⟩ := gen2 rel j y h1
    exact ⟨k, x, g1, by rw [hv, h2]; exact g2⟩
  have hsz : (s1.heap.push { cls := .type "dict_values", data := .fields #[.ref a] }).objs.size = s1.heap.objs.size + 1 := Heap.size_push _ _
  have hn : H1 (s1.heap.push { cls := .type "dict_values", data := .fields #[.ref a] }).objs.size = none := I1.hok.fresh (by rw [hsz]; exact Nat.le_succ _)
  exact ⟨.ref _, _, I1.laid (t' := tk) (o := .lst (kvs.map (·.2))) (fun b u e => kp b u (k1 b u e)) (by rw [hsz]; exact Nat.le_succ _) ⟨by rw [List.length_map]; exact hz, acc.toList, c, rv, by rw [Array.toArray_toList]; exact e2⟩, rfl, q _ hn⟩
end
end L2

namespace K6
open PySem PySem.Spec PyProof.Rows L2 Hb St Sq Ow En Zp RZ Rd Xb Da Lg
theorem wk_itc {lo c : Int} {n : Nat} {a : Addr} : Wk (Itc lo c n) a (fun _ => True) ((List.range n).map fun k => V.int (lo + (k : Nat) * c)) where
  go := fun i H hi _ => by
    show i < n
    simpa using hi
  stop := fun H _ => by show n ≤ _; simp
  yld := fun i H v H' hi _ y => by
    obtain ⟨e, ev⟩ := (show H' = H ∧ v = .int (lo + (i : Nat) * c) from y)
    have hn : i < n := by simpa using hi
    exact ⟨e, by rw [ev, List.getElem?_map, List.getElem?_range hn] <;> rfl⟩
  keep := fun _ _ => trivial
theorem down1_ok : ∀ k, k < 21 → RgC ((k : Nat) - 1 : Int) (-1) (-1) k := by
  intro k hk
  refine ⟨by decide, by decide, ?_, ?_⟩
  · revert k; decide
  · revert k; decide
/-! ### the dict of heard_tales -/
def entL (e : LotT × Nat) : List Key × V := (e.1.map .inr, V.int (e.2 : Nat))
theorem inr_inj : ∀ {a b : LotT}, (a.map Sum.inr : List Key) = b.map Sum.inr → a = b
  | [], [], _ => rfl
  | [], _ :: _, e => by simp at e
  | _ :: _, [], e => by simp at e
  | x :: xs, y :: ys, e => by
    rw [List.map_cons, List.map_cons] at e
    injection e with e1 e2
    injection e1 with e1
    rw [e1, inr_inj e2]
theorem put_ent (d : List (LotT × Nat)) (p : LotT) (c : Nat) : putK (d.map entL) (p.map .inr) (V.int (c : Nat)) = (putN d p c).map entL := by
  unfold putK putN
  have e : ((d.map entL).any fun kv => decide (kv.1 = (p.map Sum.inr : List Key))) = d.any fun e => decide (e.1 = p) := by
    rw [List.any_map]
    congr 1
    funext x
    show decide ((x.1.map Sum.inr : List Key) = p.map Sum.inr) = decide (x.1 = p)
    exact decide_eq_decide.mpr ⟨inr_inj, fun z => by rw [z]⟩
  rw [e]
  split
  · rw [List.map_map, List.map_map]
    refine List.map_congr_left fun x _ => ?_
    show (if (x.1.map Sum.inr : List Key) = p.map Sum.inr then _ else _) = entL (if x.1 = p then _ else _)
    by_cases c : x.1 = p
    · rw [if_pos c, if_pos (by rw [c])]
      show (x.1.map Sum.inr, _) = (p.map Sum.inr, _)
      rw [c]
    · rw [if_neg c, if_neg fun z => c (inr_inj z)]
  · rw [List.map_append]; rfl
theorem putN_len (d : List (LotT × Nat)) (p : LotT) (c : Nat) : (putN d p c).length ≤ d.length + 1 := by
  unfold putN
  split
  · rw [List.length_map]; omega
  · rw [List.length_append]; exact Nat.le_refl _
theorem putsN_len (c : Nat) : ∀ (ps : List LotT) (d : List (LotT × Nat)), (putsN ps c d).length ≤ d.length + ps.length
  | [], d => Nat.le_refl _
  | p :: ps, d => by
    have h := putsN_len c ps (putN d p c)
    have h2 := putN_len d p c
    show (putsN ps c (putN d p c)).length ≤ _
    rw [List.length_cons]; omega
theorem pn_len {l : LotT} (h : l.length ≤ 8) : (PN l).length ≤ 256 := by
  have := (parts_eq l).2.2
  unfold PN
  rw [List.length_drop, this]
  have : 2 ^ l.length ≤ 2 ^ 8 := Nat.pow_le_pow_right (by decide) h
  omega
theorem run_len : ∀ {ls : List LotT}, (∀ l ∈ ls, l.length ≤ 8) → (runF ls).1.length ≤ ls.length * 256
  | [], _ => Nat.zero_le _
  | l :: ls, h => by
    have ih := run_len (ls := ls) fun x hx => h x (.tail _ hx)
    have h1 := putsN_len (runF ls).2 (PN l) (runF ls).1
    have h2 := pn_len (h l (.head _))
    show (putsN (PN l) (runF ls).2 (runF ls).1).length ≤ _
    rw [List.length_cons]; omega
theorem sum_ent : ∀ d : List (LotT × Nat), (d.map fun x => ((x.2 : Nat) : Int)).sum = (((d.map (·.2)).sum : Nat) : Int)
  | [] => rfl
  | x :: d => by
    rw [List.map_cons, List.sum_cons, List.map_cons, List.sum_cons, sum_ent d]
    omega
theorem same_in {H1 H' : Hp} {p : Addr} {o : HO} (s : Same H1 H') (hn : H1 p = none) : Same H1 (upd H' p o) := fun b u e => by
  rw [upd_ne (ne_of_none e hn)]; exact s b u e
section
variable {P : Program} {w : World} {K : PySem.W.Frag} {mg : Str → Option Value} {base : Heap}
/-- one value that ought to be a tale -/
structure TI1 (K : PySem.W.Frag) (H : Hp) (v : V) (d : PyData) (ls : List LotT) : Prop where
  dv : Dp K H v d
  sd : Sm2 d
  ok : firstNo [d] = none → ∃ a, v = .ref a ∧ LT K H a ls
theorem TI1.same {H H' : Hp} {v : V} {d : PyData} {ls : List LotT} (t : TI1 K H v d ls) (s : Same H H') : TI1 K H' v d ls :=
  ⟨dp_same s t.dv, t.sd, fun n => let ⟨a, x, p⟩ := t.ok n; ⟨a, x, p.fix (Fix.of s)⟩⟩
/-- need_tales of one value -/
theorem need1 {C : Addr} {H : Hp} {v : V} {d : PyData} {ls : List LotT} {Q : VK} {E : XK} (t : TI1 K H v d ls) (q : firstNo [d] = none → ∀ H', Same H H' → Q .non H') (e : ∀ k, firstNo [d] = some k → ∀ dd H', Same H H' → H' dd = some (errH (k : Nat)) → E (.ref C) (some dd) H') :
    spNeedR K C [v] H Q E := by
  refine ⟨[], [v], rfl, rfl, by show 1 ≤ sizeLine; decide, fun p hp => ?_⟩
  have s1 := same_new hp (.tup [v])
  exact ⟨p, [v], [d], rfl, upd_same, .cons (dp_same s1 t.dv) .nil, by show 1 ≤ 1000; decide, fun d' hd' => by rw [List.mem_singleton.mp hd']; exact t.sd, fun no H2 s2 => q no H2 (s1.trans s2), fun k hk dd H2 s2 ed => e k hk dd H2 (s1.trans s2) ed⟩
/-! ### heard_tales -/
abbrev s_heard_tales : Stmt := top 28
theorem sc_heard_tales : FnScope ["lots", "counts", "nexts", "number", "part"] ["lots"] (defScope s_heard_tales) := ⟨rfl, rfl, rfl, by decide +kernel, rfl, by decide +kernel, by decide +kernel⟩
def spHear (K : PySem.W.Frag) (C : Addr) : Sp := fun vs H Q E => ∃ (v : V) (d : PyData) (ls : List LotT), vs = [v] ∧ TI1 K H v d ls ∧ ls.length ≤ 20 ∧ (∀ l ∈ ls, l.length ≤ 8) ∧ (firstNo [d] = none → ∀ H', Same H H' → Q (.int ((runF ls).2 : Nat)) H') ∧
  ∀ k, firstNo [d] = some k → ∀ dd H', Same H H' → H' dd = some (errH (k : Nat)) → E (.ref C) (some dd) H'
theorem ok_hear {f fn C : Addr} {fd : FuncData} (F : Fun K "heard_tales" "heard_tales" s_heard_tales f fd) (N : FnR P w K mg base (L2.CX P w) 4 fn (spNeedR K C)) (gN : mg "need_tales" = some (.ref fn)) (kN : PySem.W.keepIn K (.ref fn) = true) (C_parts_of : Cl P w K mg base "parts_of" ["lot"] [] 1 (spParts K)) (n_len : mg "len" = none) (n_list : mg "list" = none) (n_range : mg "range" = none) (n_sum : mg "sum" = none) : FnOk P w K mg base (L2.CX P w) 5 f fd ["lots"] (spHear K C) := by
  refine F.okX sc_heard_tales (fun vs H Q E h => ?_) (fun cdv A outer s H vs Q E hr h => ?_)
  · obtain ⟨_, _, _, rfl, _⟩ := h
    rfl
  · obtain ⟨v, d, ls, rfl, ti, l20, l8, q, qe⟩ := h
    refine ⟨_, (pss_cons (ps_expr (pe_goR N gN kN (hr.mono (by decide)) (fun σ => passAt (takes_of rfl rfl rfl rfl) σ) rfl (pa_cons (pv 0) pa_nil)))
    (pss_cons (ps_set (i := 1) sc_heard_tales.nd rfl (Or.inl rfl) (pe_lst (pa_cons pe_int pa_nil)))
    (pss_cons (ps_set (i := 2) sc_heard_tales.nd rfl (Or.inl rfl) (pe_dnewT))
    (Evl.pss_cut (ps_for (passes_of rfl) rfl (pi_range3 (by rfl) n_range (pa_cons (pe_op op_sub (pe_callB call_len_seq (by rfl) n_len PySem.boot_len (pa_cons (pv 0) pa_nil)) pe_int) (pa_cons (pe_un un_neg pe_int) (pa_cons (pe_un un_neg pe_int) pa_nil)))) (pg_name (i := 3) sc_heard_tales.nd rfl (Or.inl rfl))
      (Evl.pss_cut (ps_for (passes_of rfl) rfl (pi_seq (pe_use C_parts_of (hr.mono (by decide)) rfl (pa_cons (pe_ix ix_tup (pv 0) (pv 3) (fun _ _ => rfl)) pa_nil))) (pg_name (i := 4) sc_heard_tales.nd rfl (Or.inl rfl))
      (pss_one (ps_dput (hu_of hr) (pv 2) (pv 4) (pe_ix ix_list (pv 1) (pe_un un_neg pe_int) (fun _ _ => rfl)) rfl)))
    (pss_one (ps_expr (pe_bm PySem.F.plainAttrs_list PySem.F.slot_list_append PySem.F.type_list_append mt_append (pv 1) (pa_cons (pe_op op_add pe_int (pe_callB (cr_sum rfl) (by rfl) n_sum (by decide +kernel) (pa_cons (pe_listValsT rfl (by rfl) n_list (pv 2)) pa_nil))) pa_nil))))))
    (pss_one (ps_ret (pe_ix ix_list (pv 1) (pe_un un_neg pe_int) (fun _ _ => rfl)))))))), ?_⟩
    refine ⟨_, rfl, need1 ti (fun no H1 s1 => ?_) qe⟩
    have t1 := ti.same s1
    obtain ⟨a, rfl, its, ea, al⟩ := t1.ok no
    have la : its.length = ls.length := al.len
    refine ⟨by show 1 ≤ sizeLine; decide, fun cp hc => ?_⟩
    have s2 := same_new hc (.lst [V.int 1])
    have e2 : upd H1 cp (.lst [V.int 1]) cp = some (.lst [V.int 1]) := upd_same
    generalize upd H1 cp (.lst [V.int 1]) = H2 at s2 e2 ⊢
    intro np hnp
    have s3 := same_new hnp (.dT [])
    have e3 : upd H2 np (.dT []) np = some (.dT []) := upd_same
    have nec : cp ≠ np := ne_of_none e2 hnp
    have hnp1 : H1 np = none := by
      cases z : H1 np with
      | none => rfl
      | some o => exact absurd rfl (ne_of_none (s2 _ _ z) hnp)
    have ec3 := s3 _ _ e2
    have s13 := s2.trans s3
    generalize upd H2 np (.dT []) = H3 at e3 ec3 s13 ⊢
    let W3 : Nat → Hp → Prop := fun i H' => ∃ cs : List V, Same H1 H' ∧ H' cp = some (.lst (cs ++ [V.int ((runF (ls.drop (ls.length - i))).2 : Nat)])) ∧ cs.length = i ∧ H' np = some (.dT ((runF (ls.drop (ls.length - i))).1.map entL))
    refine ⟨fun σ H' => (∃ o3 o4, σ = [some (.ref a), some (.ref cp), some (.ref np), o3, o4]) ∧ W3 ls.length H', ?_, ?_⟩
    · refine ⟨_, rfl, a, _, rfl, .inr (SqT.of (s13 _ _ ea)), _, _, rfl, rfl, _, rfl, _, rfl, ((ls.length : Nat) - 1 : Int), -1, -1, ls.length, by rw [la], down1_ok _ (by omega), ?_⟩
      refine for_sq (wk_itc (a := a)) (fun i σ H' => (∃ o3 o4, σ = [some (.ref a), some (.ref cp), some (.ref np), o3, o4]) ∧ W3 i H') ⟨⟨_, _, rfl⟩, [], s13, ?_, rfl, ?_⟩ (fun _ _ _ _ => trivial) ?_ ?_
      · rw [ec3, Nat.sub_zero, List.drop_length]; rfl
      · rw [e3, Nat.sub_zero, List.drop_length]; rfl
      · rintro i σ H4 x ex ⟨⟨o3, o4, rfl⟩, cs, s4, ec4, lc, en4⟩
        have hi : i < ls.length := by
          have := (List.getElem?_eq_some_iff.mp ex).1
          rwa [List.length_map, List.length_range] at this
        obtain ⟨m, hm⟩ : ∃ m, ls.length - i = m + 1 := ⟨ls.length - i - 1, by omega⟩
        obtain rfl : x = natV m := by
          rw [List.getElem?_map, List.getElem?_range hi] at ex
          have := Option.some.inj ex
          rw [← this]
          show V.int _ = V.int _
          congr 1
          omega
        have hml : m < ls.length := by omega
        obtain ⟨l, el⟩ : ∃ l, ls[m]? = some l := ⟨_, List.getElem?_eq_getElem hml⟩
        have hl8 := l8 l (at_mem el)
        have edr : ls.drop m = l :: ls.drop (m + 1) := by rw [List.drop_eq_getElem_cons hml, (List.getElem?_eq_some_iff.mp el).2]
        rw [hm] at ec4 en4
        have em1 : ls.length - (i + 1) = m := by omega
        let D := (runF (ls.drop (m + 1))).1
        let c := (runF (ls.drop (m + 1))).2
        have lD : D.length ≤ 5120 := by
          have := run_len (ls := ls.drop (m + 1)) fun x hx => l8 x (List.mem_of_mem_drop hx)
          rw [List.length_drop] at this
          have z : (ls.length - (m + 1)) * 256 ≤ 20 * 256 := Nat.mul_le_mul_right _ (by omega)
          exact Nat.le_trans this z
        have lPN := pn_len hl8
        refine ⟨fun σ H' => (∃ o3 o4, σ = [some (.ref a), some (.ref cp), some (.ref np), o3, o4]) ∧ Same H1 H' ∧ H' cp = some (.lst (cs ++ [V.int (c : Nat)])) ∧ H' np = some (.dT ((putsN (PN l) c D).map entL)), ?_, ?_⟩
        · obtain ⟨y, ey, b, rfl, eb⟩ := al.getR el
          refine ⟨_, rfl, _, rfl, a, its, (m : Nat), .ref b, rfl, rfl, SqT.of (s4 _ _ ea), atI_nat ey, ?_⟩
          refine ⟨b, l, rfl, SqTk eb s4, hl8, fun pp pits H5 s5 ep alp => ?_⟩
          refine ⟨pp, pits, rfl, SqX.lst ep, fun J S W z0 => ?_⟩
          have ec5 := s5 _ _ ec4
          have en5 := s5 _ _ en4
          have npn : pp ≠ np := ne_of ep en5 (fun z => nomatch z)
          have s15 := s4.trans s5
          refine for_sq W (fun j σ H' => (∃ o3 o4, σ = [some (.ref a), some (.ref cp), some (.ref np), o3, o4]) ∧ Same H1 H' ∧ Kept np H5 H' ∧ H' np = some (.dT ((putsN ((PN l).take j) c D).map entL))) ⟨⟨_, _, rfl⟩, s15, Kept.refl _ _, by rw [List.take_zero]; exact en5⟩ (fun j σ H' pv => W.keep (fun o e => pv.2.2.1 _ _ e npn) z0) ?_ ?_
          · rintro j σ H6 y ey ⟨⟨o3, o4, rfl⟩, s6, k6, en6⟩
            obtain ⟨p, epj, pb, rfl, epb⟩ := alp.get ey
            have hj := (List.getElem?_eq_some_iff.mp epj).1
            have ec6 := k6 _ _ ec5 nec
            have epb6 := k6 _ _ epb (ne_of epb en5 (fun z => nomatch z))
            have lz := putsN_len c ((PN l).take j) D
            rw [List.length_take] at lz
            refine ⟨_, rfl, _, rfl, cp, _, -1, _, rfl, rfl, SqL.of ec6, at_last, _, rfl, _, rfl, np, _, rfl, DPut.t (k := p.map .inr) en6 (by rw [epb6, List.map_map]; rfl) (by rw [List.length_map, sizeLine_eq]; omega), ⟨_, _, rfl⟩, same_in s6 hnp1, k6.trans kept_upd, ?_⟩
            rw [upd_same, put_ent, List.take_add_one, epj]
            unfold putsN
            rw [List.foldl_append]
            rfl
          · rintro σ H6 ⟨⟨o3, o4, rfl⟩, s6, k6, en6⟩
            rw [alp.len, List.take_length] at en6
            exact ⟨⟨_, _, rfl⟩, s6, k6 _ _ ec5 nec, en6⟩
        · rintro σ H6 ⟨⟨o3, o4, rfl⟩, s6, ec6, en6⟩
          have ev : ((putsN (PN l) c D).map entL).map (·.2) = ((putsN (PN l) c D).map fun x => ((x.2 : Nat) : Int)).map V.int := by rw [List.map_map, List.map_map]; rfl
          refine ⟨_, rfl, .inl ⟨rfl, _, SqL.of ec6⟩, _, rfl, np, _, rfl, en6, fun vl hvl => ?_⟩
          rw [ev]
          have s7 := same_new hvl (.lst (((putsN (PN l) c D).map fun x => ((x.2 : Nat) : Int)).map V.int))
          have ec7 := s7 _ _ ec6
          have en7 := s7 _ _ en6
          have e7 : upd H6 vl (.lst (((putsN (PN l) c D).map fun x => ((x.2 : Nat) : Int)).map V.int)) vl = _ := upd_same
          generalize upd H6 vl (.lst (((putsN (PN l) c D).map fun x => ((x.2 : Nat) : Int)).map V.int)) = H7 at s7 ec7 en7 e7 ⊢
          refine ⟨vl, _, rfl, SqL.of e7, _, _, rfl, rfl, cp, _, _, rfl, rfl, ec7, by rw [List.length_append, sizeLine_eq]; show cs.length + 1 < _; omega, ?_⟩
          have hcp1 : H1 cp = none := hc
          refine ⟨⟨_, _, rfl⟩, cs ++ [V.int (c : Nat)], same_in (s6.trans s7) hcp1, ?_, by rw [List.length_append]; show cs.length + 1 = _; omega, ?_⟩
          · rw [upd_same, em1, edr, sum_ent]
            show some (HO.lst (_ ++ [V.int _])) = some (HO.lst (_ ++ [V.int ((1 + ((putsN (PN l) c D).map (·.2)).sum : Nat) : Int)]))
            rw [show ((1 + ((putsN (PN l) c D).map (·.2)).sum : Nat) : Int) = 1 + (((putsN (PN l) c D).map (·.2)).sum : Nat) by omega]
          · rw [upd_ne (Ne.symm nec), em1, edr, en7]; rfl
      · rintro σ H6 ⟨⟨o3, o4, rfl⟩, w6⟩
        rw [List.length_map, List.length_range] at w6
        exact ⟨⟨_, _, rfl⟩, w6⟩
    · rintro σ H6 ⟨⟨o3, o4, rfl⟩, cs, s6, ec6, _, _⟩
      refine ⟨_, rfl, _, rfl, cp, _, -1, _, rfl, rfl, SqL.of ec6, at_last, ?_⟩
      rw [Nat.sub_self, List.drop_zero]
      exact q no _ (s1.trans s6)
end
end K6

namespace K6
open PySem PySem.Spec PyProof.Rows L2 Hb St Sq Ow En Zp RZ Rd Xb Da Lg
theorem evL_lt {x : Str} {n : Nat} : ∀ {ls : List LotT} {i : Int} {k : Nat}, evL ls x i k = some n → n < ls.length + k
  | [], _, _, h => by cases h
  | l :: ls, i, k, h => by
    have h : (if x ∈ l then (if i - 1 = 0 then some k else evL ls x (i - 1) (k + 1)) else evL ls x i (k + 1)) = some n := h
    rw [List.length_cons]
    split at h
    · split at h
      · cases h; omega
      · have := evL_lt h; omega
    · have := evL_lt h; omega
theorem evD_some {d : PyData} {p : Str × Int} (h : evD d = some p) : d = .tuple [.str p.1, .int p.2] := by
  match d, h with
  | .tuple [a, b], h =>
    have h : mkEv a b = some p := h
    unfold mkEv at h
    obtain ⟨x, hx, h⟩ := Option.bind_eq_some_iff.mp h
    obtain ⟨i, hi, h⟩ := Option.bind_eq_some_iff.mp h
    split at h
    · cases h
      obtain rfl : a = .str x := by cases a <;> first | (cases hx; rfl) | cases hx
      obtain rfl : b = .int i := by cases b <;> first | (cases hi; rfl) | cases hi
      rfl
    · cases h
  | .tuple [], h => cases h
  | .tuple [_], h => cases h
  | .tuple (_ :: _ :: _ :: _), h => cases h
theorem numF_some {ls : List LotT} {d : PyData} {n : Nat} (h : numF ls d = some n) : ∃ x i, d = .tuple [.str x, .int i] ∧ evL ls x i 0 = some n ∧ n < ls.length := by
  unfold numF at h
  cases e : evD d with
  | none => rw [e] at h; cases h
  | some p =>
    rw [e] at h
    exact ⟨p.1, p.2, evD_some e, h, by have := evL_lt h; omega⟩
theorem dp_ev {K : PySem.W.Frag} {H : Hp} {v : V} {x : Str} {i : Int} (h : Dp K H v (.tuple [.str x, .int i])) : ∃ b, v = .ref b ∧ SqT K H b [.str x, .int i] := by
  cases h with
  | tup ht ha2 =>
    have al := dpa_all ha2
    cases al with
    | cons h0 t => cases t with
      | cons h1 t =>
        cases t
        cases h0
        cases h1
        exact ⟨_, rfl, ht⟩
/-- the data of a tale -/
theorem tD_sh {ls : List LotT} (h : ∀ l ∈ ls, ∀ x ∈ l, IsNm x) : Sh 2 (tD ls) := sh_tup fun l hl => sh_lot (h l hl)
theorem tD_eq (ls ms : List LotT) : PyData.eqv (tD ls) (tD ms) = decide (ls = ms) :=
  eqvAll_map (f := fun l : LotT => PyData.tuple (l.map .str)) (fun a b => eqvAll_map eqv_str a b) ls ms
theorem tD_dp {K : PySem.W.Frag} {H : Hp} {p : Addr} {its : List V} {ls : List LotT} (e : H p = some (.tup its)) (al : All2 (TupS K H) its ls) : Dp K H (.ref p) (tD ls) :=
  .tup (SqT.of e) (dp_all (f := fun l : LotT => PyData.tuple (l.map .str)) (fun v l ⟨b, eb, hb⟩ => by rw [eb]; exact .tup hb (dp_strs l)) al)
theorem sil_nm {ls : List LotT} {x : Str} {n : Nat} (h : ∀ l ∈ ls, ∀ x ∈ l, IsNm x) : ∀ l ∈ silN ls x n, ∀ x ∈ l, IsNm x := by
  intro l hl y hy
  unfold silN at hl
  rcases List.mem_append.mp hl with hl | hl
  · rcases List.mem_append.mp hl with hl | hl
    · exact h l (List.mem_of_mem_take hl) y hy
    · split at hl
      · cases hl
      · obtain rfl := List.mem_singleton.mp hl
        unfold restN at hy
        have hy := (List.mem_filter.mp hy).1
        rw [List.getD_eq_getElem?_getD] at hy
        cases e : ls[n]? with
        | none => rw [e] at hy; cases hy
        | some l => rw [e] at hy; exact h l (at_mem e) y hy
  · exact h l (List.mem_of_mem_drop hl) y hy
section
variable {P : Program} {w : World} {K : PySem.W.Frag} {mg : Str → Option Value} {base : Heap}
/-! ### alike_silences -/
abbrev s_alike_silences : Stmt := top 30
theorem sc_alike_silences : FnScope ["lots", "one", "other", "numbers", "at", "event", "number"] ["lots", "one", "other"] (defScope s_alike_silences) := ⟨rfl, rfl, rfl, by decide +kernel, rfl, by decide +kernel, by decide +kernel⟩
def spAlike (K : PySem.W.Frag) (C : Addr) : Sp := fun vs H Q E => ∃ (v o1 o2 : V) (d d1 d2 : PyData) (ls : List LotT), vs = [v, o1, o2] ∧ TI1 K H v d ls ∧ ls.length ≤ 20 ∧ (∀ l ∈ ls, l.length ≤ 8) ∧ (∀ l ∈ ls, ∀ x ∈ l, IsNm x) ∧ Dp K H o1 d1 ∧ (firstNo [d] = none → ShP d1) ∧ Dp K H o2 d2 ∧ (firstNo [d] = none → ShP d2) ∧
  (∀ k, firstNo [d] = some k → ∀ dd H', Same H H' → H' dd = some (errH (k : Nat)) → E (.ref C) (some dd) H') ∧
  (firstNo [d] = none → numF ls d1 = none → ∀ dd H', Same H H' → H' dd = some (errH 1) → E (.ref C) (some dd) H') ∧
  (firstNo [d] = none → numF ls d1 ≠ none → numF ls d2 = none → ∀ dd H', Same H H' → H' dd = some (errH 2) → E (.ref C) (some dd) H') ∧
  ∀ x1 n1 x2 n2 (i1 i2 : Int), firstNo [d] = none → d1 = .tuple [.str x1, .int i1] → numF ls d1 = some n1 → d2 = .tuple [.str x2, .int i2] → numF ls d2 = some n2 → ∀ H', Same H H' → Q (.bl (decide (silN ls x1 n1 = silN ls x2 n2))) H'
theorem ok_alike {f fn C fI : Addr} {fd : FuncData} (F : Fun K "alike_silences" "alike_silences" s_alike_silences f fd) (T : ErrC K mg "InvalidHeard" C fI) (N : FnR P w K mg base (L2.CX P w) 4 fn (spNeedR K C)) (gN : mg "need_tales" = some (.ref fn)) (kN : PySem.W.keepIn K (.ref fn) = true) (C_number_of_event : Cl P w K mg base "number_of_event" ["lots", "value"] [] 3 (spNum K)) (C_silenced_tale : Cl P w K mg base "silenced_tale" ["lots", "name", "number"] [] 1 (spSil K)) (n_enumerate : mg "enumerate" = none) : FnOk P w K mg base (L2.CX P w) 5 f fd ["lots", "one", "other"] (spAlike K C) := by
  refine F.okX sc_alike_silences (fun vs H Q E h => ?_) (fun cdv A outer s H vs Q E hr h => ?_)
  · obtain ⟨_, _, _, _, _, _, _, rfl, _⟩ := h
    rfl
  · obtain ⟨v, o1, o2, d, d1, d2, ls, rfl, ti, l20, l8, nm, h1, sm1, h2, sm2, qe, q1, q2, q⟩ := h
    refine ⟨_, (pss_cons (ps_expr (pe_goR N gN kN (hr.mono (by decide)) (fun σ => passAt (takes_of rfl rfl rfl rfl) σ) rfl (pa_cons (pv 0) pa_nil)))
    (pss_cons (ps_set (i := 3) sc_alike_silences.nd rfl (Or.inl rfl) (pe_lst pa_nil))
    (Evl.pss_cut (ps_for (passes_of rfl) rfl (pi_enumT (by rfl) n_enumerate (pa_cons (pe_tup (pa_cons (pv 1) (pa_cons (pv 2) pa_nil))) pa_nil)) (pg_tup rfl (pgs_cons (pg_name (i := 4) sc_alike_silences.nd rfl (Or.inl rfl)) (pgs_cons (pg_name (i := 5) sc_alike_silences.nd rfl (Or.inl rfl)) pgs_nil)))
      (pss_cons (ps_set (i := 6) sc_alike_silences.nd rfl (Or.inl rfl) (pe_use C_number_of_event (hr.mono (by decide)) rfl (pa_cons (pv 0) (pa_cons (pv 5) pa_nil))))
    (pss_cons (ps_if (pt_cmpR op_isN (pv 6) pe_non (nomark _)) (pss_one (ps_raiseAt rfl T hr (takes_of rfl rfl rfl rfl) (pa_cons (pe_op op_add (pv 4) pe_int) pa_nil) rfl)) pss_nil)
    (pss_one (ps_expr (pe_bm PySem.F.plainAttrs_list PySem.F.slot_list_append PySem.F.type_list_append mt_append (pv 3) (pa_cons (pv 6) pa_nil)))))))
    (pss_one (ps_ret (pe_cmpR (op_eqD hr.units) (pe_use C_silenced_tale (hr.mono (by decide)) rfl (pa_cons (pv 0) (pa_cons (pe_ix ix_tup (pv 1) pe_int (fun _ _ => rfl)) (pa_cons (pe_ix ix_list (pv 3) pe_int (fun _ _ => rfl)) pa_nil)))) (pe_use C_silenced_tale (hr.mono (by decide)) rfl (pa_cons (pv 0) (pa_cons (pe_ix ix_tup (pv 2) pe_int (fun _ _ => rfl)) (pa_cons (pe_ix ix_list (pv 3) pe_int (fun _ _ => rfl)) pa_nil)))) (nomark _))))))), ?_⟩
    refine ⟨_, rfl, need1 ti (fun no H1 s1 => ?_) qe⟩
    have t1 := ti.same s1
    obtain ⟨a, rfl, ha⟩ := t1.ok no
    refine ⟨by show 0 ≤ sizeLine; decide, fun np hnp => ?_⟩
    have s2 := same_new hnp (.lst [])
    have e2 : upd H1 np (.lst []) np = some (.lst []) := upd_same
    generalize upd H1 np (.lst []) = H2 at s2 e2 ⊢
    have h1' := dp_same (s1.trans s2) h1
    have h2' := dp_same (s1.trans s2) h2
    have fn : ∀ m, (m < 2 → ∃ (e : PyData), [d1, d2][m]? = some e) := fun m hm => ⟨_, List.getElem?_eq_getElem hm⟩
    refine ⟨fun σ H' => (∃ o4 o5 o6, σ = [some (.ref a), some o1, some o2, some (.ref np), o4, o5, o6]) ∧ Same H1 H' ∧ ∃ n1 n2, numF ls d1 = some n1 ∧ numF ls d2 = some n2 ∧ H' np = some (.lst [natV n1, natV n2]), ?_, ?_⟩
    · refine ⟨_, rfl, _, rfl, by show 2 ≤ sizeLine; decide, fun tp htp => ?_⟩
      have s3 := same_new htp (.tup [o1, o2])
      have e3 : upd H2 tp (.tup [o1, o2]) tp = some (.tup [o1, o2]) := upd_same
      have en3 := s3 _ _ e2
      generalize upd H2 tp (.tup [o1, o2]) = H3 at s3 e3 en3 ⊢
      have ntn : tp ≠ np := ne_of e3 en3 (fun z => nomatch z)
      refine ⟨tp, rfl, ⟨_, SqT.of e3⟩, ?_⟩
      refine for_en en_tup (fun j σ H' => (∃ o4 o5 o6, σ = [some (.ref a), some o1, some o2, some (.ref np), o4, o5, o6]) ∧ Same H1 H' ∧ Kept np H3 H' ∧ ∃ ns : List Nat, [numF ls d1, numF ls d2].take j = ns.map some ∧ H' np = some (.lst (ns.map natV)))
        ⟨⟨_, _, _, rfl⟩, s2.trans s3, Kept.refl _ _, [], rfl, en3⟩ (fun j σ H' pv => SqT.of (pv.2.2.1 _ _ e3 ntn)) ?_ ?_
      · rintro j σ H4 x t ex ⟨⟨o4, o5, o6, rfl⟩, s4, k4, ns, ens, en4⟩ ht
        have s5 := same_new ht (.tup [.int (j : Nat), x])
        have e5 : upd H4 t (.tup [.int (j : Nat), x]) t = some (.tup [.int (j : Nat), x]) := upd_same
        refine ⟨t, _, rfl, SqT.of e5, rfl, _, _, rfl, _, _, rfl, rfl, ?_⟩
        have en5 := s5 _ _ en4
        have s15 := s4.trans s5
        have k5 := k4.trans (Same.kept s5)
        generalize upd H4 t (.tup [.int (j : Nat), x]) = H5 at s5 e5 en5 s15 k5 ⊢
        obtain ⟨e, sh, de, ej, qf⟩ : ∃ e, ShP e ∧ Dp K H1 x e ∧ [numF ls d1, numF ls d2][j]? = some (numF ls e) ∧ (numF ls e = none → ∀ dd H', Same H1 H' → H' dd = some (errH ((j : Nat) + 1 : Int)) → E (.ref C) (some dd) H') := by
          match j, ex with
          | 0, ex => cases ex; exact ⟨d1, sm1 no, dp_same s1 h1, rfl, fun z dd H' s' ed => q1 no z dd H' (s1.trans s') ed⟩
          | 1, ex =>
            cases ex
            refine ⟨d2, sm2 no, dp_same s1 h2, rfl, fun z dd H' s' ed => q2 no (fun y => ?_) z dd H' (s1.trans s') ed⟩
            rw [y] at ens
            cases ns with
            | nil => cases ens
            | cons n ns => injection ens with e1 _; cases e1
        refine ⟨_, rfl, _, rfl, a, x, ls, e, rfl, ha.fix (Fix.of s15), by omega, dp_same s15 de, sh, fun H6 s6 => ?_⟩
        have en6 := s6 _ _ en5
        cases ef : numF ls e with
        | none => exact ⟨_, rfl, rfl, _, rfl, iteT ⟨_, rfl, _, _, rfl, rfl, _, rfl, fun dd hn => qf ef dd _ ((s15.trans s6).trans (same_new hn _)) upd_same⟩⟩
        | some n =>
          rw [ef] at ej
          refine ⟨_, rfl, rfl, _, rfl, iteF ⟨_, rfl, .inl ⟨rfl, _, SqL.of en6⟩, _, rfl, np, _, _, rfl, rfl, en6, ?_, ⟨_, _, _, rfl⟩, same_in (s15.trans s6) hnp, (k5.trans (Same.kept s6)).trans kept_upd, ns ++ [n], ?_, ?_⟩⟩
          · have := congrArg List.length ens
            rw [List.length_map, List.length_take] at this
            rw [List.length_map, sizeLine_eq, ← this]
            show min j 2 < _
            omega
          · rw [List.take_add_one, ens, ej, List.map_append]; rfl
          · rw [upd_same, List.map_append]; rfl
      · rintro σ H4 ⟨⟨o4, o5, o6, rfl⟩, s4, k4, ns, ens, en4⟩
        have ens : [numF ls d1, numF ls d2] = ns.map some := ens
        obtain ⟨n1, n2, rfl⟩ : ∃ n1 n2, ns = [n1, n2] := by
          match ns, congrArg List.length ens with
          | [n1, n2], _ => exact ⟨n1, n2, rfl⟩
        injection ens with e1 e2
        injection e2 with e2 _
        exact ⟨⟨_, _, _, rfl⟩, s4, n1, n2, e1, e2, en4⟩
    · rintro σ H6 ⟨⟨o4, o5, o6, rfl⟩, s6, n1, n2, f1, f2, en6⟩
      obtain ⟨x1, i1, rfl, _, lt1⟩ := numF_some f1
      obtain ⟨x2, i2, rfl, _, lt2⟩ := numF_some f2
      obtain ⟨b1, rfl, hb1⟩ := dp_ev (dp_same (s1.trans s6) h1)
      obtain ⟨b2, rfl, hb2⟩ := dp_ev (dp_same (s1.trans s6) h2)
      have ha6 := ha.fix (Fix.of s6)
      refine ⟨_, rfl, _, rfl, b1, _, 0, _, rfl, rfl, hb1, rfl, _, rfl, np, _, 0, _, rfl, rfl, SqL.of en6, rfl, ?_⟩
      refine ⟨a, x1, n1, ls, rfl, ha6, lt1, by omega, fun l hl => by have := l8 l hl; omega, fun p7 its7 H7 s7 e7 al7 => ?_⟩
      refine ⟨_, rfl, _, rfl, b2, _, 0, _, rfl, rfl, SqTk hb2 s7, rfl, _, rfl, np, _, 1, _, rfl, rfl, SqL.of (s7 _ _ en6), rfl, ?_⟩
      refine ⟨a, x2, n2, ls, rfl, ha6.fix (Fix.of s7), lt2, by omega, fun l hl => by have := l8 l hl; omega, fun p8 its8 H8 s8 e8 al8 => ?_⟩
      refine ⟨tD (silN ls x1 n1), tD (silN ls x2 n2), tD_dp (s8 _ _ e7) (al7.imp fun _ _ t => t.fix (Fix.of s8)), tD_dp e8 al8, (tD_sh (sil_nm nm)).ok (by decide), (tD_sh (sil_nm nm)).ok (by decide), ?_⟩
      rw [tD_eq]
      exact q x1 n1 x2 n2 i1 i2 no rfl f1 rfl f2 H8 (((s1.trans s6).trans s7).trans s8)
end
end K6

/-! dicts whose keys are tuples of tuples of texts: {}, {(): v}, d[k] = v, for k in d, len(d) -/
namespace Dn
open PySem PySem.Spec PyProof.Rows L2 Hb Sq
/-- a plain dict with just these entries -/
def DnO (d : Addr) (es : Array DictEntry) (ep : Nat) : HO := .ext fun h => h.DictRaw d es ep
abbrev Tl := List (List Str)
def NK (l : Tl) : NestedKey := .tup (l.map fun p => .tup (p.map .text))
def TxS (K : PySem.W.Frag) (H : Hp) (v : V) (l : List Str) : Prop := ∃ b, v = .ref b ∧ SqT K H b (l.map V.str)
/-- at b stands the tuple of the tuples of texts l -/
def TalR (K : PySem.W.Frag) (H : Hp) (b : Addr) (l : Tl) : Prop := ∃ ys, SqT K H b ys ∧ All2 (TxS K H) ys l
theorem text_inj : ∀ {a b : List Str}, a.map NestedKey.text = b.map NestedKey.text → a = b
  | [], [], _ => rfl
  | [], _ :: _, e => by simp at e
  | _ :: _, [], e => by simp at e
  | x :: xs, y :: ys, e => by
    rw [List.map_cons, List.map_cons] at e
    injection e with e1 e2
    injection e1 with e1
    rw [e1, text_inj e2]
theorem tups_inj : ∀ {a b : Tl}, (a.map fun p => NestedKey.tup (p.map .text)) = (b.map fun p => NestedKey.tup (p.map .text)) → a = b
  | [], [], _ => rfl
  | [], _ :: _, e => by simp at e
  | _ :: _, [], e => by simp at e
  | x :: xs, y :: ys, e => by
    rw [List.map_cons, List.map_cons] at e
    injection e with e1 e2
    injection e1 with e1
    rw [text_inj e1, tups_inj e2]
theorem nk_inj {a b : Tl} (e : NK a = NK b) : a = b := by
  unfold NK at e
  injection e with e
  exact tups_inj e
theorem nk_text {h : Heap} : ∀ {l : List Str} {us : List Value}, Vals (l.map V.str) us → NestedAll h (l.map .text) us
  | [], _, r => by rw [List.map_nil] at r; cases r; exact .nil
  | x :: l, _, r => by
    rw [List.map_cons] at r
    cases r with
    | cons h1 t => obtain ⟨tk, rfl⟩ := h1; exact .cons (.text _ _) (nk_text t)
theorem dp_text : ∀ l : List Str, NestedKey.depthAll (l.map .text) = 0
  | [] => rfl
  | x :: l => by rw [List.map_cons, NestedKey.depthAll, dp_text l]; rfl
theorem dp_tups : ∀ l : Tl, NestedKey.depthAll (l.map fun p => .tup (p.map .text)) ≤ 1
  | [] => Nat.zero_le _
  | x :: l => by
    rw [List.map_cons, NestedKey.depthAll, NestedKey.depth, dp_text]
    have := dp_tups l
    omega
section
variable {X : Cx} {pins : List (Addr × Obj)} {σ : L2.St} {H : Hp} {s : Shared}
theorem nk_tups (I : Inv X pins σ H s) : ∀ {ys : List V} {l : Tl} {us : List Value}, All2 (TxS X.K H) ys l → Vals ys us → NestedAll s.heap (l.map fun p => .tup (p.map .text)) us
  | _, _, _, .nil, r => by cases r; exact .nil
  | _, _, _, .cons h1 t, r => by
    cases r with
    | cons r1 r2 =>
      obtain ⟨b, rfl, hb⟩ := h1
      cases r1
      obtain ⟨its, rv, ⟨o, e1, e2, n, e3⟩, _⟩ := I.tuple hb
      exact .cons (.tup e1 e2 e3 (by simpa using nk_text rv)) (nk_tups I t r2)
theorem nk_is (I : Inv X pins σ H s) {b : Addr} {l : Tl} (h : TalR X.K H b l) : (nestedKind X.prog X.w).is s.heap (NK l) b := by
  obtain ⟨ys, hy, al⟩ := h
  obtain ⟨its, rv, ⟨o, e1, e2, n, e3⟩, _⟩ := I.tuple hy
  refine ⟨.tup e1 e2 e3 (by simpa using nk_tups I al rv), ?_⟩
  unfold NK
  rw [NestedKey.depth]
  have := dp_tups l
  omega
end
/-- the tuples stand -/
def TupK (H H' : Hp) : Prop := ∀ b o, H b = some o → (∀ φ, o ≠ .ext φ) → H' b = some o
theorem sqT_k {K : PySem.W.Frag} {H H' : Hp} {a : Addr} {xs : List V} (f : TupK H H') (h : SqT K H a xs) : SqT K H' a xs := by
  rcases h with (e | ⟨o, e⟩) | r
  · exact .inl (.inl (f _ _ e (fun _ z => nomatch z)))
  · exact .inl (.inr ⟨o, f _ _ e (fun _ z => nomatch z)⟩)
  · exact .inr r
theorem TalR.k {K : PySem.W.Frag} {H H' : Hp} {b : Addr} {l : Tl} (f : TupK H H') (h : TalR K H b l) : TalR K H' b l := by
  obtain ⟨ys, hy, al⟩ := h
  exact ⟨ys, sqT_k f hy, al.imp fun v p ⟨c, e, t⟩ => ⟨c, e, sqT_k f t⟩⟩
theorem TalR.fix {K : PySem.W.Frag} {H H' : Hp} {b : Addr} {l : Tl} (f : Fix H H') (h : TalR K H b l) : TalR K H' b l := by
  obtain ⟨ys, hy, al⟩ := h
  exact ⟨ys, tupFix f hy, al.imp fun v p ⟨c, e, t⟩ => ⟨c, e, tupFix f t⟩⟩
theorem tupK_dn {H : Hp} {d : Addr} {es es' : Array DictEntry} {ep ep' : Nat} (e : H d = some (DnO d es ep)) : TupK H (upd H d (DnO d es' ep')) := fun b o eb n => by
  rw [upd_ne fun z => ?_]
  · exact eb
  · rw [z, e] at eb
    exact n _ (Option.some.inj eb).symm
/-- the dict at d has the keys ls -/
def DN (K : PySem.W.Frag) (w : World) (H : Hp) (d : Addr) (es : Array DictEntry) (ls : List Tl) : Prop := (d == sysModules) = false ∧ ∃ xs : List (NestedKey × Addr × Value),
  es.toList = xs.map (fun x => ⟨x.1.hash w, .ref x.2.1, x.2.2⟩) ∧ (xs.map (·.1)).Nodup ∧ All2 (fun x l => x.1 = NK l ∧ TalR K H x.2.1 l) xs ls
theorem DN.k {K : PySem.W.Frag} {w : World} {H H' : Hp} {d : Addr} {es : Array DictEntry} {ls : List Tl} (h : DN K w H d es ls) (f : TupK H H') : DN K w H' d es ls := by
  obtain ⟨h1, xs, h2, h3, h4⟩ := h
  exact ⟨h1, xs, h2, h3, h4.imp fun _ _ z => ⟨z.1, z.2.k f⟩⟩
theorem DN.len {K : PySem.W.Frag} {w : World} {H : Hp} {d : Addr} {es : Array DictEntry} {ls : List Tl} (h : DN K w H d es ls) : es.size = ls.length := by
  obtain ⟨h1, xs, h2, h3, h4⟩ := h
  rw [← Array.length_toList, h2, List.length_map, h4.len]
def putL (ls : List Tl) (l : Tl) : List Tl := if l ∈ ls then ls else ls ++ [l]
theorem at_mem {K : PySem.W.Frag} {H : Hp} : ∀ {xs : List (NestedKey × Addr × Value)} {ls : List Tl}, All2 (fun x l => x.1 = NK l ∧ TalR K H x.2.1 l) xs ls → ∀ l : Tl, (atKey xs (NK l)).isSome = true ↔ l ∈ ls
  | _, _, .nil, l => by simp [atKey]
  | _, _, .cons (a := x) (b := m) (as := as) h t, l => by
    have ih := at_mem t l
    by_cases e : x.1 = NK l
    · have : m = l := nk_inj (h.1.symm.trans e)
      simp [atKey, e, this]
    · have ne : l ≠ m := fun z => e (by rw [h.1, z])
      rw [List.mem_cons]
      have q : atKey (x :: as) (NK l) = atKey as (NK l) := by simp [atKey, e]
      rw [q, ih]
      simp [ne]
theorem all2_put {K : PySem.W.Frag} {H : Hp} (k : NestedKey) (u : Value) : ∀ {xs : List (NestedKey × Addr × Value)} {ls : List Tl}, All2 (fun x l => x.1 = NK l ∧ TalR K H x.2.1 l) xs ls → All2 (fun x l => x.1 = NK l ∧ TalR K H x.2.1 l) (xs.map (putAt k u)) ls
  | _, _, .nil => .nil
  | _, _, .cons (a := x) h t => by
    refine .cons ?_ (all2_put k u t)
    unfold putAt
    split
    · exact h
    · exact h
theorem dn_put {K : PySem.W.Frag} {H : Hp} {xs : List (NestedKey × Addr × Value)} {ls : List Tl} (al : All2 (fun x l => x.1 = NK l ∧ TalR K H x.2.1 l) xs ls) {l : Tl} {b : Addr} (hb : TalR K H b l) (u : Value) :
    All2 (fun x l => x.1 = NK l ∧ TalR K H x.2.1 l) (storedH xs (NK l) b u) (putL ls l) := by
  unfold storedH putL
  by_cases c : l ∈ ls
  · rw [if_pos c, if_pos ((at_mem al l).mpr c)]
    exact all2_put _ _ al
  · rw [if_neg c, if_neg (fun z => c ((at_mem al l).mp z))]
    exact al.app (.cons ⟨rfl, hb⟩ .nil)
section
variable {X : Cx} {pins : List (Addr × Obj)} {σ : L2.St} {H : Hp} {s : Shared}
theorem dn_raw (I : Inv X pins σ H s) {d : Addr} {es : Array DictEntry} {ep : Nat} (e : H d = some (DnO d es ep)) : s.heap.DictRaw d es ep := (show ObjOk X.prog X.w H s.heap d (DnO d es ep) from I.hok d _ e).1
theorem dn_of (I : Inv X pins σ H s) {d : Addr} {es : Array DictEntry} {ep : Nat} {ls : List Tl} (e : H d = some (DnO d es ep)) (h : DN X.K X.w H d es ls) :
    ∃ xs, s.heap.DictOfH (nestedKind X.prog X.w) d xs ∧ All2 (fun x l => x.1 = NK l ∧ TalR X.K H x.2.1 l) xs ls := by
  obtain ⟨h1, xs, h2, h3, h4⟩ := h
  obtain ⟨o, ho, hx, hdt⟩ := dn_raw I e
  refine ⟨xs, ⟨o, es, ep, ho, hx, hdt, h2, fun x hm => ?_, h3⟩, h4⟩
  obtain ⟨i, hi⟩ := List.mem_iff_getElem?.mp hm
  obtain ⟨l, _, r1, r2⟩ := h4.get hi
  rw [r1]
  exact nk_is I r2
theorem dnO_ok {P : Program} {w : World} {H : Hp} {h : Heap} {d : Addr} {es : Array DictEntry} {ep : Nat} (r : h.DictRaw d es ep) : ObjOk P w H h d (DnO d es ep) :=
  ⟨r, let ⟨o, ho, _⟩ := r; ⟨o, ho⟩, fun _ _ p k => p.at k⟩
end
/-- {} -/
def tDnNew (K : PySem.W.Frag) (w : World) : TE := fun _ H Q => ∀ p, H p = none → (∀ H', DN K w H' p #[] []) → Q (.ref p) (upd H p (DnO p #[] 0))
theorem pe_dnNew {X : Cx} {pos : Pos} : PE X (.Dict [] [] pos) (tDnNew X.K X.w) := ⟨fun pins s σ H Q I h => by
  have ne : (s.heap.objs.size == sysModules) = false := beq_eq_false_iff_ne.mpr (Ne.symm (Nat.ne_of_lt I.big))
  exact wpAny_Dict_empty ⟨.ref s.heap.objs.size, _, I.laid (a := s.heap.objs.size) (o := DnO s.heap.objs.size #[] 0) (t' := s.toks) (fun _ _ q => Heap.get?_push_of_some _ q) (Nat.le_refl _) (dnO_ok ⟨_, Heap.get?_push_size _ rfl, ⟨rfl, rfl, rfl⟩, rfl⟩), rfl,
    h _ (I.hok.fresh (Nat.le_refl _)) fun H' => ⟨ne, [], rfl, List.nodup_nil, .nil⟩⟩⟩
/-- {k: v} -/
def tDn1 (K : PySem.W.Frag) (w : World) (tk tv : TE) : TE := fun σ H Q => ∀ p, H p = none → tk σ (upd H p (DnO p #[] 0)) fun x H1 => tv σ H1 fun y H2 => H2 p = some (DnO p #[] 0) ∧ ∃ (l : Tl) (b : Addr), x = .ref b ∧ TalR K H2 b l ∧
  ∀ es ep, DN K w (upd H2 p (DnO p es ep)) p es [l] → Q (.ref p) (upd H2 p (DnO p es ep))
theorem pe_dn1 {X : Cx} {k v : Expr} {tk tv : TE} {pos : Pos} (hu : X.A.units + 8 < cLine) (hk : PE X k tk) (hv : PE X v tv) : PE X (.Dict [some k] [v] pos) (tDn1 X.K X.w tk tv) := by
  refine ⟨fun pins s σ H Q I q => ?_⟩
  have hn := I.hok.fresh (Nat.le_refl s.heap.objs.size)
  have ne : (s.heap.objs.size == sysModules) = false := beq_eq_false_iff_ne.mpr (Ne.symm (Nat.ne_of_lt I.big))
  have I1 := I.laid (a := s.heap.objs.size) (o := DnO s.heap.objs.size #[] 0) (h' := s.heap.push { cls := .type "dict", data := .dict #[] }) (t' := s.toks) (fun _ _ q => Heap.get?_push_of_some _ q) (Nat.le_refl _) (dnO_ok ⟨_, Heap.get?_push_size _ rfl, ⟨rfl, rfl, rfl⟩, rfl⟩)
  have pr := pairTrees_length [some k] [v] X.env pos rfl rfl
  rw [arm_eval_Dict, zip_pairTrees [some k] [v] X.env pos rfl rfl, dictDisplay_pairs _ (fun z => by rw [z] at pr; cases pr) (by rw [pr]; exact (by decide : (1 : Nat) < 17))]
  refine wpAny_bind (wpAny_standAt (wpAny_bind (wpAny_subDictH (knd := nestedKind X.prog X.w) (Q := fun d s' => wpAny (model X.prog X.w) X.A (pure (Value.ref d)) (EP X pins σ Q) X.xe s') (show X.A.units + 8 < cLine by exact hu) (by rw [pr]; exact (by decide : (1 : Nat) ≤ 15)) ?_)))
  refine thn ((pps_cons hk hv pps_nil).run pins _ σ _ (fun ps H2 => match ps with | [(x, y)] => H2 s.heap.objs.size = some (DnO s.heap.objs.size #[] 0) ∧ ∃ (l : Tl) (b : Addr), x = .ref b ∧ TalR X.K H2 b l ∧
      (∀ es ep, DN X.K X.w (upd H2 s.heap.objs.size (DnO s.heap.objs.size es ep)) s.heap.objs.size es [l] → Q (.ref s.heap.objs.size) (upd H2 s.heap.objs.size (DnO s.heap.objs.size es ep))) | _ => False) I1 (q _ hn)) fun ws s2 ⟨ps, H2, I2, rel, q1⟩ => ?_
  match ps, q1 with
  | [(x, y)], q1 => ?_
  obtain ⟨e, l, b, ex, eb, q2⟩ := q1
  subst ex
  cases rel with
  | @cons _ bb _ _ h t =>
    obtain ⟨b1, b2⟩ := bb
    cases t
    obtain ⟨r1, r2⟩ := h
    cases (show b1 = Value.ref b from r1)
    obtain ⟨xs, dd, al⟩ := dn_of (ls := []) I2 e ⟨ne, [], rfl, List.nodup_nil, .nil⟩
    cases al
    refine ⟨[(NK l, b, b2)], ⟨rfl, rfl, nk_is I2 eb, trivial⟩, dd, fun h' tk' dd' hs => ?_⟩
    obtain ⟨qo, es, ep, hq, h2, h3, h4, _, h5⟩ := dd'
    have f : TupK H2 (upd H2 s.heap.objs.size (DnO s.heap.objs.size es ep)) := tupK_dn e
    refine wpAny_pure ⟨.ref s.heap.objs.size, _, ?_, rfl, q2 es ep ⟨ne, _, h4, h5, .cons ⟨rfl, eb.k f⟩ .nil⟩⟩
    exact d_write I2 (by rw [e]; exact True.intro) hs ⟨qo, hq⟩ (dnO_ok ⟨qo, hq, h2, h3⟩)
/-- d[k] = v -/
def sDnPut (K : PySem.W.Frag) (w : World) (td ty tv : TE) : TS := fun D σ H => tv σ H fun v H1 => td σ H1 fun x H2 => ty σ H2 fun y H3 => ∃ (d b : Addr) (es : Array DictEntry) (ep : Nat) (ls : List Tl) (l : Tl), x = .ref d ∧ y = .ref b ∧ H3 d = some (DnO d es ep) ∧ DN K w H3 d es ls ∧ TalR K H3 b l ∧ ls.length < sizeLine ∧
  ∀ es' ep', DN K w (upd H3 d (DnO d es' ep')) d es' (putL ls l) → D.nx σ (upd H3 d (DnO d es' ep'))
theorem ps_dnPut {X : Cx} {o i value : Expr} {pos pos' : Pos} {td ty tv : TE} (hu : X.A.units + 1 + 8 < cLine) (ho : PE X o td) (hi : PE X i ty) (hv : PE X value tv) (hs : swapsWith value (some (.Subscript o i pos')) pos.line X.env = pure false) :
    PS X (.Assign [.Subscript o i pos'] value pos) (sDnPut X.K X.w td ty tv) := by
  refine ⟨fun pins s σ H D I h => ?_⟩
  refine wpAny_Assign_Subscript (thn (hv.run pins s σ H _ I h) fun r s1 ⟨v, H1, I1, rv, q1⟩ => thn (ho.run pins s1 σ H1 _ I1 q1) fun u s2 ⟨x, H2, I2, rx, q2⟩ => thn (hi.run pins s2 σ H2 _ I2 q2) fun iv s3 ⟨y, H3, I3, ry, d, b, es, ep, ls, l, ex, ey, e, hd, hb, hl, q3⟩ => ?_) hs
  subst ex
  subst ey
  obtain rfl : u = Value.ref d := rx
  obtain rfl : iv = Value.ref b := ry
  obtain ⟨xs, dd, al⟩ := dn_of I3 e hd
  refine wpAny_setItem_heap (hsz := by rw [al.len]; exact Nat.le_of_lt hl) (show (nestedKind X.prog X.w).room X.A.in1 from hu) (nk_is I3 hb) dd fun h' dd' sb => ?_
  obtain ⟨qo, es', ep', hq, h2, h3, h4, _, h5⟩ := dd'
  have f : TupK H3 (upd H3 d (DnO d es' ep')) := tupK_dn e
  refine ⟨σ, _, d_write I3 (by rw [e]; exact True.intro) sb ⟨qo, hq⟩ (dnO_ok ⟨qo, hq, h2, h3⟩), q3 es' ep' ⟨hd.1, _, h4, h5, ?_⟩⟩
  exact dn_put (al.imp fun _ _ z => ⟨z.1, z.2.k f⟩) (hb.k f) r
/-- len(d) -/
def rLenDn (K : PySem.W.Frag) (w : World) : List V → Hp → VK → Prop := fun vs H Q => ∃ (d : Addr) (es : Array DictEntry) (ep : Nat) (ls : List Tl), vs = [.ref d] ∧ H d = some (DnO d es ep) ∧ DN K w H d es ls ∧ ls.length < sizeLine ∧ Q (.int ls.length) H
theorem cr_lenDn {X : Cx} : CallR X (.builtin "len") (rLenDn X.K X.w) := by
  intro pins s σ H xs us Q I r h
  obtain ⟨d, es, ep, ls, rfl, e, hd, hl, q⟩ := h
  obtain rfl := Vals.ref1 r
  have raw := dn_raw I e
  have hz := hd.len
  refine call_len_slot (n := (es.size : Nat)) raw.typeIs F.slot_dict_len (fun Q' hq => call_len_raw hd.1 raw hq) (by omega) (by rw [sizeLine_eq] at hl; omega) ?_
  rw [hz]
  exact ⟨.int ls.length, H, I.tok _, ⟨_, rfl⟩, q⟩
/-- for k in d -/
def Itn (d : Addr) (es : Array DictEntry) (ep : Nat) (xs : List V) : It := ⟨fun i H => H d = some (DnO d es ep) ∧ i < xs.length, fun i H x H' => H' = H ∧ xs[i]? = some x, fun i H => H d = some (DnO d es ep) ∧ xs.length ≤ i⟩
theorem turn_dn {P : Program} {w : World} {K : PySem.W.Frag} {tg : Expr} {d : Addr} {es : Array DictEntry} {ep : Nat} {as : List Addr} (it : Addr) (hk : es.toList.map (·.key) = as.map Value.ref) :
    Turn P w K tg (Itn d es ep (as.map V.ref)) [it] it (fun i h => h.IsKeyIter it d i es.size ep) where
  mem := by simp
  obj := fun i h st b hb => by
    have e : b = it := by simpa using hb
    subst e
    obtain ⟨oi, e, c, dd⟩ := st
    exact ⟨oi, e, fun v z => by rw [dd] at z; cases z⟩
  keep := fun i h h' st k => st.at fun oi e => k it (by simp) oi e
  item := by
    intro X hP hw hK hc i pins s σ H E I hf st hg
    subst hP hw hK
    obtain ⟨hd, hi⟩ := hg
    obtain ⟨f0, f1, f2, f3, f4, f5⟩ := hf it (by simp)
    obtain ⟨o, ho, hx, hdt⟩ := dn_raw I hd
    have hi' : i < as.length := by simpa using hi
    obtain ⟨en, hen, hkey⟩ : ∃ en, es[i]? = some en ∧ en.key = .ref as[i] := by
      have q : (es.toList.map (·.key))[i]? = some (Value.ref as[i]) := by rw [hk, List.getElem?_map, List.getElem?_eq_getElem hi']; rfl
      rw [List.getElem?_map, Array.getElem?_toList] at q
      exact Option.map_eq_some_iff.mp q
    refine next_key_item st ho hdt rfl hen fun h' st' sb => ?_
    have I1 : Inv X pins σ H { s with heap := h' } := I.turned (t' := s.toks) (fun b ob hb e => (sb.2 b hb).trans e) f0 f1 f3 f4 f5
    obtain ⟨oi, e, c, dd⟩ := id st'
    exact ⟨en.key, rfl, go_of (s := { s with heap := h' }) e c dd (by decide) ⟨.ref as[i], H, I1, hkey, ⟨rfl, by rw [List.getElem?_map, List.getElem?_eq_getElem hi']; rfl⟩, st', fun b hb => (hf b hb).1⟩⟩
  done := by
    intro X hP hw hK hc i pins s σ H E I hf st hg
    subst hP hw hK
    obtain ⟨hd, hi⟩ := hg
    obtain ⟨f0, f1, f2, f3, f4, f5⟩ := hf it (by simp)
    obtain ⟨o, ho, hx, hdt⟩ := dn_raw I hd
    have hl : es.size = as.length := by
      have := congrArg List.length hk
      simpa using this
    exact next_key_end (I.ok.hd hc) st ho hdt rfl (by rw [hl]; simpa using hi) fun h' eb => ⟨rfl, I.turned (t' := s.toks) (fun b ob hb e => eb b ob hb e) f0 f1 f3 f4 f5⟩
  self := fun A i s Q E st h => by
    refine wpAny_pyIter_slot st.typeIs F.slot_dict_keyiterator_iter (wpAny_call_entry F.slot_dict_keyiterator_iter st.typeIs F.entry_dict_keyiterator_iter ?_ (F.args_dict_keyiterator_iter_1 _))
    show wpAny _ _ (ret (.ref it)) _ _ s
    exact wpAny_pure ⟨_, rfl, "dict_keyiterator", _, st.typeIs, F.slot_dict_keyiterator_next.lookup, h⟩
theorem wk_dn {d : Addr} {es : Array DictEntry} {ep : Nat} {xs : List V} : Wk (Itn d es ep xs) d (fun H => H d = some (DnO d es ep)) xs where
  go := fun i H hi s => ⟨s, hi⟩
  stop := fun H s => ⟨s, Nat.le_refl _⟩
  yld := fun i H v H' _ s y => y
  keep := fun k s => k _ s
def iDn (K : PySem.W.Frag) (w : World) (td : TE) : TI := fun σ H R => td σ H fun x H1 => ∃ (d : Addr) (es : Array DictEntry) (ep : Nat) (ls : List Tl), x = .ref d ∧ H1 d = some (DnO d es ep) ∧ DN K w H1 d es ls ∧
  ∀ (J : It) (xs : List V), Wk J d (fun H => H d = some (DnO d es ep)) xs → All2 (fun v l => ∃ b, v = .ref b ∧ TalR K H1 b l) xs ls → R J H1
theorem pi_dn {X : Cx} {tg e : Expr} {td : TE} (he : PE X e td) : PI X tg e (iDn X.K X.w td) := by
  refine ⟨fun pins s σ H R I h => ?_⟩
  refine thn (he.run pins s σ H _ I h) fun u s1 ⟨x, H1, I1, rx, d, es, ep, ls, ex, hd, hD, q⟩ => ?_
  subst ex
  obtain rfl : u = Value.ref d := rx
  obtain ⟨o, ho, hx, hdt⟩ := dn_raw I1 hd
  obtain ⟨hs, xs, h2, h3, h4⟩ := hD
  have hk : es.toList.map (·.key) = (xs.map fun x => x.2.1).map Value.ref := by rw [h2, List.map_map, List.map_map]; rfl
  refine iter_keys hs ho hx hdt (pi_one (tk := s1.toks) I1 _ (turn_dn _ hk) ⟨_, Heap.get?_push_size _ rfl, rfl, rfl⟩ (q _ _ wk_dn ?_))
  clear q hk h2 h3
  induction h4 with
  | nil => exact .nil
  | cons h t ih => exact .cons ⟨_, rfl, h.2⟩ ih
end Dn

namespace K6
open PySem PySem.Spec PyProof.Rows L2 Hb St Sq Ow En Zp RZ Rd Xb Da Lg
theorem hu8 {k : Nat} {A : Around} (hr : Room k A) : A.units + 8 < cLine := by have := hr.units; omega
theorem hu9 {k : Nat} {A : Around} (hr : Room k A) : A.units + 1 + 8 < cLine := by have := hr.units; omega
theorem eP_len : ∀ {ls t : List LotT}, EmbP ls t → t.length ≤ ls.length
  | _, [], _ => Nat.zero_le _
  | [], _ :: _, h => h.elim
  | l :: ls, p :: t, h => by
    rcases (eP_cons ..).mp h with ⟨_, h⟩ | h
    · have := eP_len h
      rw [List.length_cons, List.length_cons]; omega
    · have := eP_len h
      rw [List.length_cons, List.length_cons] at *; omega
theorem sil_tl (ls : List LotT) : ∀ t ∈ silF ls, t.length ≤ ls.length := fun t ht => by
  have := (sil_go ls.reverse).2 t
  rw [List.reverse_reverse] at this
  exact eP_len (this.mp ht)
theorem sum_take : ∀ (ls : List LotT) (i : Nat), ((ls.take i).map (·.length)).sum ≤ (ls.map (·.length)).sum
  | [], i => by simp
  | l :: ls, 0 => by simp
  | l :: ls, i + 1 => by
    have := sum_take ls i
    rw [List.take_succ_cons, List.map_cons, List.sum_cons, List.map_cons, List.sum_cons]; omega
theorem sil_small {ls : List LotT} (h : (ls.map (·.length)).sum ≤ 8) (i : Nat) : (silF (ls.take i)).length ≤ 256 := by
  have h1 := sil_len (ls.take i) [[]] 0 (by decide)
  have h2 := sum_take ls i
  have h3 : 2 ^ (0 + ((ls.take i).map (·.length)).sum) ≤ 2 ^ 8 := Nat.pow_le_pow_right (by decide) (by omega)
  exact Nat.le_trans h1 h3
theorem len_sum : ∀ {ls : List LotT} {l : LotT}, l ∈ ls → l.length ≤ (ls.map (·.length)).sum
  | l :: ls, m, h => by
    rw [List.map_cons, List.sum_cons]
    rcases List.mem_cons.mp h with rfl | h
    · omega
    · have := len_sum h; omega
theorem parts_sub : ∀ (l : LotT) (ps : List LotT), ∀ p ∈ l.foldl (fun ps x => ps ++ ps.map fun p => p ++ [x]) ps, ∀ x ∈ p, x ∈ l ∨ ∃ q ∈ ps, x ∈ q
  | [], ps, p, hp, x, hx => .inr ⟨p, hp, hx⟩
  | y :: l, ps, p, hp, x, hx => by
    rcases parts_sub l (ps ++ ps.map fun p => p ++ [y]) p hp x hx with z | ⟨q, hq, z⟩
    · exact .inl (.tail _ z)
    · rcases List.mem_append.mp hq with hq | hq
      · exact .inr ⟨q, hq, z⟩
      · obtain ⟨r, hr, rfl⟩ := List.mem_map.mp hq
        rcases List.mem_append.mp z with z | z
        · exact .inr ⟨r, hr, z⟩
        · rw [List.mem_singleton.mp z]; exact .inl (.head _)
theorem tupK_same {H H' : Hp} (s : Same H H') : Dn.TupK H H' := fun b o e _ => s b o e
theorem tupK_kept {H H' : Hp} {d : Addr} {es : Array DictEntry} {ep : Nat} (e : H d = some (Dn.DnO d es ep)) (k : Kept d H H') : Dn.TupK H H' := fun b o eb n => k b o eb fun z => by
  rw [z, e] at eb
  exact n _ (Option.some.inj eb).symm
theorem none_back {H H' : Hp} {p : Addr} (s : Same H H') (n : H' p = none) : H p = none := by
  cases z : H p with
  | none => rfl
  | some o => exact absurd rfl (ne_of_none (s _ _ z) n)
section
variable {P : Program} {w : World} {K : PySem.W.Frag} {mg : Str → Option Value} {base : Heap}
def FW (K : PySem.W.Frag) (w : World) (H : Hp) (fp : Addr) (found : List Dn.Tl) : Prop := ∃ es ep, H fp = some (Dn.DnO fp es ep) ∧ Dn.DN K w H fp es found
theorem FW.same {H H' : Hp} {fp : Addr} {found : List Dn.Tl} (h : FW K w H fp found) (s : Same H H') : FW K w H' fp found := let ⟨es, ep, e, d⟩ := h; ⟨es, ep, s _ _ e, d.k (tupK_same s)⟩
/-! ### _law_silences -/
abbrev s__law_silences : Stmt := top 41
theorem sc__law_silences : FnScope ["lots", "found", "lot", "parts", "later", "name", "part", "told"] ["lots"] (defScope s__law_silences) := ⟨rfl, rfl, rfl, by decide +kernel, rfl, by decide +kernel, by decide +kernel⟩
def spLSil (K : PySem.W.Frag) (w : World) : Sp := fun vs H Q _ => ∃ (a : Addr) (ls : List LotT), vs = [.ref a] ∧ LL K H a ls ∧ ls.length ≤ 20 ∧ (ls.map (·.length)).sum ≤ 8 ∧ (∀ l ∈ ls, ∀ x ∈ l, IsNm x) ∧ ∀ H', Same H H' → Q (.int ((silF ls).length : Nat)) H'
theorem ok_lsil {f : Addr} {fd : FuncData} (F : Fun K "_law_silences" "_law_silences" s__law_silences f fd) (n_len : mg "len" = none) : FnOk P w K mg base CX0 1 f fd ["lots"] (spLSil K w) := by
  refine F.ok sc__law_silences (fun vs H Q E h => ?_) (fun cdv A outer s H vs Q E hr h => ?_)
  · obtain ⟨_, _, rfl, _⟩ := h
    rfl
  · obtain ⟨a, ls, rfl, ha, l20, l8, nm, q⟩ := h
    refine ⟨_, (pss_cons (ps_set (i := 1) sc__law_silences.nd rfl (Or.inl rfl) (Dn.pe_dn1 (hu8 hr) (pe_tup pa_nil) pe_bl))
    (Evl.pss_cut (ps_for PassesOwn.never rfl (pi_seq (pv 0)) (pg_name (i := 2) sc__law_silences.nd rfl (Or.inl rfl))
      (pss_cons (ps_par (i := 3) (j := 4) (by rfl) sc__law_silences.nd rfl rfl (by decide) rfl rfl (pa_cons (pe_lst (pa_cons (pe_tup pa_nil) pa_nil)) (pa_cons Dn.pe_dnNew pa_nil)) (by rfl))
    (Evl.pss_cut (ps_for PassesOwn.never rfl (pi_seq (pv 2)) (pg_name (i := 5) sc__law_silences.nd rfl (Or.inr rfl))
      (pss_one (ps_set (i := 3) sc__law_silences.nd rfl (Or.inl rfl) (pe_op op_cat (pv 3) (pe_lc (own := [("part", 6)]) (g := gName 6) rfl sc__law_silences.nd (pi_seq (pv 3)) (blkOk_by (N := ["lots", "found", "lot", "parts", "later", "name", "part", "told"]) (sc := defScope s__law_silences) (by decide +kernel)) (fun _ _ _ _ _ => pg_name (i := 6) sc__law_silences.nd rfl (Or.inl rfl)) (fun _ _ _ _ _ => pts_nil) (fun _ _ _ _ _ => pe_op (r := rCatA K) op_catA (pv 6) (pe_tup (pa_cons (pv 5) pa_nil))))))))
    (Evl.pss_cut (ps_for PassesOwn.never rfl (Dn.pi_dn (pv 1)) (pg_name (i := 7) sc__law_silences.nd rfl (Or.inl rfl))
      (pss_one (ps_for PassesOwn.never rfl (pi_seq (pv 3)) (pg_name (i := 6) sc__law_silences.nd rfl (Or.inl rfl))
      (pss_one (Dn.ps_dnPut (hu9 hr) (pv 4) (pe_op op_catA (pv 7) (pe_ifExp (pt_cmpR (op_neD hr.units) (pv 6) (pe_tup pa_nil) (nomark _)) (pe_tup (pa_cons (pv 6) pa_nil)) (pe_tup pa_nil))) pe_bl rfl)))))
    (pss_one (ps_set (i := 1) sc__law_silences.nd rfl (Or.inl rfl) (pv 4)))))))
    (pss_one (ps_ret (pe_callB Dn.cr_lenDn (by rfl) n_len PySem.boot_len (pa_cons (pv 1) pa_nil)))))), ?_⟩
    obtain ⟨its, ea, al⟩ := id ha
    have la : its.length = ls.length := al.len
    intro fp hfp
    have s1 := same_new hfp (Dn.DnO fp #[] 0)
    have e1 : upd H fp (Dn.DnO fp #[] 0) fp = some (Dn.DnO fp #[] 0) := upd_same
    have in1 : ∀ H' o, Same (upd H fp (Dn.DnO fp #[] 0)) H' → Same H (upd H' fp o) := fun H' o s => same_in (s1.trans s) hfp
    generalize upd H fp (Dn.DnO fp #[] 0) = H1 at s1 e1 in1 ⊢
    refine ⟨by show 0 ≤ sizeLine; decide, fun t ht => ?_⟩
    have s2 := same_new ht (.tup [])
    have e2 : upd H1 t (.tup []) t = some (.tup []) := upd_same
    generalize upd H1 t (.tup []) = H2 at s2 e2 ⊢
    refine ⟨s2 _ _ e1, [], t, rfl, ⟨[], SqT.of e2, .nil⟩, fun es ep dn => ?_⟩
    have s3 : Same H (upd H2 fp (Dn.DnO fp es ep)) := in1 _ _ s2
    have f3 : FW K w (upd H2 fp (Dn.DnO fp es ep)) fp [[]] := ⟨es, ep, upd_same, dn⟩
    generalize upd H2 fp (Dn.DnO fp es ep) = H3 at s3 f3 ⊢
    refine ⟨fun σ H' => (∃ fp o2 o3 o4 o5 o6 o7, σ = [some (.ref a), some (.ref fp), o2, o3, o4, o5, o6, o7] ∧ FW K w H' fp (silF ls)) ∧ Same H H', ?_, ?_⟩
    · refine ⟨_, rfl, a, its, rfl, .inl (SqL.of (s3 _ _ ea)), fun J S W z0 => ?_⟩
      refine for_sq W (fun i σ H' => (∃ fp o2 o3 o4 o5 o6 o7, σ = [some (.ref a), some (.ref fp), o2, o3, o4, o5, o6, o7] ∧ FW K w H' fp (silF (ls.take i))) ∧ Same H H' ∧ H' a = some (.lst its)) ⟨⟨_, _, _, _, _, _, _, rfl, f3⟩, s3, s3 _ _ ea⟩ (fun i σ H' pv => W.keep (fun o e => by rw [pv.2.2]; rw [s3 _ _ ea] at e; exact e) z0) ?_ ?_
      · rintro i σ H4 y ey ⟨⟨fp, o2, o3, o4, o5, o6, o7, rfl, f4⟩, s4, ea4⟩
        obtain ⟨l, el, hy⟩ := al.get ey
        have hi := (List.getElem?_eq_some_iff.mp el).1
        have hy4 := hy.fix (Fix.of s4)
        obtain ⟨lb, rfl, hlb⟩ := hy4
        have ll8 : l.length ≤ 8 := Nat.le_trans (len_sum (at_mem el)) l8
        have fs := sil_small l8 i
        refine ⟨by show 0 ≤ sizeLine; decide, fun t kt => ⟨by show 1 ≤ sizeLine; decide, fun pl kl => ?_⟩⟩
        have a0 := same_new kt (.tup [])
        have a1 := same_new kl (.lst [.ref t])
        have s5 : Same H4 (upd (upd H4 t (.tup [])) pl (.lst [.ref t])) := a0.trans a1
        have h5 : upd (upd H4 t (.tup [])) pl (.lst [.ref t]) pl = some (.lst [.ref t]) := upd_same
        have t5 : LotH (upd (upd H4 t (.tup [])) pl (.lst [.ref t])) (.ref t) [] := ⟨t, rfl, a1 _ _ upd_same⟩
        generalize upd (upd H4 t (.tup [])) pl (.lst [.ref t]) = H5 at s5 h5 t5 ⊢
        intro lp hlp dnl
        have s6 := same_new hlp (Dn.DnO lp #[] 0)
        have e6 : upd H5 lp (Dn.DnO lp #[] 0) lp = some (Dn.DnO lp #[] 0) := upd_same
        have h6 := s6 _ _ h5
        have t6 := t5.on (.same s6)
        have s46 := s5.trans s6
        generalize upd H5 lp (Dn.DnO lp #[] 0) = H6 at s6 e6 h6 t6 s46 ⊢
        have hlp4 : H4 lp = none := none_back s5 hlp
        have hlpH : H lp = none := none_back s4 hlp4
        dsimp only [tNil]
        refine ⟨_, _, rfl, ?_⟩
        refine ⟨fun σ H' => ∃ p pits o5 o6 o7, σ = [some (.ref a), some (.ref fp), some (.ref lb), some (.ref p), some (.ref lp), o5, o6, o7] ∧ Same H6 H' ∧ H' p = some (.lst pits) ∧ All2 (LotH H') pits (partsA l), ?_, ?_⟩
        · refine ⟨_, rfl, lb, _, rfl, .inr (SqTk hlb s46), fun J2 S2 W2 z2 => ?_⟩
          refine for_sq W2 (fun j σ H' => ∃ p pits o5 o6 o7, σ = [some (.ref a), some (.ref fp), some (.ref lb), some (.ref p), some (.ref lp), o5, o6, o7] ∧ Same H6 H' ∧ H' p = some (.lst pits) ∧ All2 (LotH H') pits (partsJ l j)) ⟨pl, _, _, _, _, rfl, Same.refl _, h6, .cons t6 .nil⟩ (fun j σ H' pv => W2.keep (fun o e => let ⟨_, _, _, _, _, _, s, _⟩ := pv; s _ _ e) z2) ?_ ?_
          · rintro j σ H7 y ey ⟨p, pits, o5, o6, o7, rfl, s7, ep, alp⟩
            obtain ⟨x, ex, rfl⟩ := str_at ey
            have hj := (List.getElem?_eq_some_iff.mp ex).1
            have lj : (partsJ l j).length ≤ 256 := by
              unfold partsJ
              rw [parts_len, List.length_singleton, Nat.one_mul, List.length_take]
              exact Nat.pow_le_pow_right (n := 2) (i := min j l.length) (j := 8) (by decide) (by omega)
            have inj : ∀ p ∈ partsJ l j, p.length ≤ 8 := fun p hp => by
              have := parts_in (l.take j) [[]] 0 (fun q hq => by rw [List.mem_singleton.mp hq]; exact Nat.le_refl _) p hp
              rw [List.length_take] at this
              omega
            refine ⟨_, rfl, _, rfl, p, pits, rfl, .inl (SqL.of ep), fun J3 S3 W3 z3 D hD => ?_⟩
            refine lc_mf (ds := partsJ l j) W3 (fun _ => true) (fun H v p => LotH H v (p ++ [x])) z3 hD alp.len (fun k v p' H' ev ep' s m => ?_) (fun H8 ys s8 e8 al8 => ?_)
            · obtain ⟨p2, ep2, pb, rfl, epb⟩ := alp.get ev
              obtain rfl : p2 = p' := Option.some.inj (ep2.symm.trans ep')
              have lp := inj _ (at_mem ep')
              refine ⟨rfl, _, rfl, _, rfl, by show 1 ≤ sizeLine; decide, fun t1 ht1 => ?_⟩
              have s9 := same_new ht1 (.tup [V.str x])
              refine rd_catTK ((s.trans s9) _ _ epb) upd_same (by rw [List.length_map]; show _ + 1 ≤ _; omega) fun t2 H9 s10 e10 => ?_
              exact mf_yes m hD (fun _ _ _ _ f h => h.on (.fix f)) ep' (by omega) (s9.trans s10) rfl ⟨t2, rfl, by rw [e10, List.map_append]; rfl⟩
            · rw [Rd.filter_all] at al8
              have la := alp.len
              have l3 := al8.len
              refine ⟨p, D, pits, ys, rfl, rfl, s8 _ _ ep, e8, by rw [la, l3, sizeLine_eq]; omega, fun c kc => ?_⟩
              have s9 := same_new kc (.lst (pits ++ ys))
              refine ⟨c, _, _, _, _, rfl, (s7.trans s8).trans s9, upd_same, ?_⟩
              rw [partsJ_succ ex]
              exact (alp.imp fun _ _ r => (r.on (.same s8)).on (.same s9)).app (all2_mapR (al8.imp fun _ _ r => LotH.on r (.same s9)))
          · rintro σ H7 ⟨p, pits, o5, o6, o7, rfl, s7, ep, alp⟩
            rw [List.length_map, partsJ_all] at alp
            exact ⟨p, pits, _, _, _, rfl, s7, ep, alp⟩
        rintro σ H7 ⟨p, pits, o5, o6, o7, rfl, s7, ep, alp⟩
        have f7 := (f4.same s46).same s7
        have e7 := s7 _ _ e6
        have s47 := s46.trans s7
        have lpA : (partsA l).length ≤ 256 := by
          rw [(parts_eq l).2.2]
          exact Nat.pow_le_pow_right (n := 2) (i := l.length) (j := 8) (by decide) ll8
        refine ⟨fun σ H' => (∃ o5 o6 o7, σ = [some (.ref a), some (.ref fp), some (.ref lb), some (.ref p), some (.ref lp), o5, o6, o7]) ∧ Kept lp H7 H' ∧ FW K w H' lp (stepS (silF (ls.take i)) l), ?_, ?_⟩
        · obtain ⟨fes, fep, fe, fd⟩ := f7
          refine ⟨_, rfl, fp, fes, fep, _, rfl, fe, fd, fun J2 xs2 W2 al2 => ?_⟩
          have nfl : fp ≠ lp := by obtain ⟨_, _, e, _⟩ := f4; exact ne_of_none e hlp4
          let fnd := silF (ls.take i)
          let accK : Nat → List (List LotT) := fun k => (fnd.take k).flatMap fun t => (partsA l).map (moreT t)
          have accS : ∀ {k t}, fnd[k]? = some t → accK (k + 1) = accK k ++ (partsA l).map (moreT t) := fun {k t} e => by
            show (fnd.take (k + 1)).flatMap _ = (fnd.take k).flatMap _ ++ _
            rw [List.take_add_one, e, List.flatMap_append]
            simp
          have accL : ∀ k, (accK k).length ≤ k * 256 := fun k => by
            show ((fnd.take k).flatMap _).length ≤ _
            have : (fnd.take k).length ≤ k := by rw [List.length_take]; exact Nat.min_le_left _ _
            refine Nat.le_trans ?_ (Nat.mul_le_mul_right 256 this)
            clear this
            induction fnd.take k with
            | nil => simp
            | cons t r ih => rw [List.flatMap_cons, List.length_append, List.length_map, List.length_cons]; omega
          refine for_sq W2 (fun k σ H' => (∃ o5 o6 o7, σ = [some (.ref a), some (.ref fp), some (.ref lb), some (.ref p), some (.ref lp), o5, o6, o7]) ∧ Kept lp H7 H' ∧ FW K w H' lp ((accK k).foldl addN [])) ⟨⟨_, _, _, rfl⟩, Kept.refl _ _, _, _, e7, dnl _⟩ (fun k σ H' pv => pv.2.1 _ _ fe nfl) ?_ ?_
          · rintro k σ H8 y ey ⟨⟨o5, o6, o7, rfl⟩, k8, f8⟩
            obtain ⟨tl, et, tb, rfl, htl⟩ := al2.get ey
            have hk := (List.getElem?_eq_some_iff.mp et).1
            have npl : p ≠ lp := ne_of ep e7 (fun z => nomatch z)
            have tk8 := tupK_kept e7 k8
            refine ⟨_, rfl, p, pits, rfl, SqX.lst (k8 _ _ ep npl), fun J3 S3 W3 z3 => ?_⟩
            refine for_sq W3 (fun j σ H' => (∃ o5 o6, σ = [some (.ref a), some (.ref fp), some (.ref lb), some (.ref p), some (.ref lp), o5, o6, some (.ref tb)]) ∧ Kept lp H7 H' ∧ Kept lp H8 H' ∧ FW K w H' lp ((accK k ++ ((partsA l).take j).map (moreT tl)).foldl addN [])) ⟨⟨_, _, rfl⟩, k8, Kept.refl _ _, by rw [List.take_zero, List.map_nil, List.append_nil]; exact f8⟩ (fun j σ H' pv => W3.keep (fun o e => pv.2.2.1 _ _ e npl) z3) ?_ ?_
            · rintro j σ H9 y ey3 ⟨⟨o5, o6, rfl⟩, k9, k89, f9⟩
              obtain ⟨part, epj, pb, rfl, epb⟩ := alp.get ey3
              have hj := (List.getElem?_eq_some_iff.mp epj).1
              have epb9 := k9 _ _ epb (ne_of epb e7 (fun z => nomatch z))
              have htl9 := htl.k (tupK_kept e7 k9)
              obtain ⟨es9, ep9, e9, d9⟩ := f9
              have lacc : ((accK k ++ ((partsA l).take j).map (moreT tl)).foldl addN []).length < sizeLine := by
                have h1 := (adds_nd (accK k ++ ((partsA l).take j).map (moreT tl)) [] List.nodup_nil).2.2
                have h2 := accL k
                have h3 : ((partsA l).take j).length ≤ (partsA l).length := by rw [List.length_take]; exact Nat.min_le_right _ _
                have h4 : k * 256 ≤ 256 * 256 := Nat.mul_le_mul_right _ (Nat.le_trans (Nat.le_of_lt hk) fs)
                rw [List.length_append, List.length_map, List.length_nil] at h1
                rw [sizeLine_eq]; omega
              have fin : ∀ (b' : Addr) (H' : Hp), Same H9 H' → Dn.TalR K H' b' (moreT tl part) → ∃ (d b : Addr) (es : Array DictEntry) (ep : Nat) (ls : List Dn.Tl) (tt : Dn.Tl), V.ref lp = .ref d ∧ V.ref b' = .ref b ∧ H' d = some (Dn.DnO d es ep) ∧ Dn.DN K w H' d es ls ∧ Dn.TalR K H' b tt ∧ ls.length < sizeLine ∧
                  ∀ es' ep', Dn.DN K w (upd H' d (Dn.DnO d es' ep')) d es' (Dn.putL ls tt) → (∃ o5' o6', [some (V.ref a), some (V.ref fp), some (V.ref lb), some (V.ref p), some (V.ref lp), o5, some (V.ref pb), some (V.ref tb)] = [some (V.ref a), some (V.ref fp), some (V.ref lb), some (V.ref p), some (V.ref lp), o5', o6', some (V.ref tb)]) ∧
                    Kept lp H7 (upd H' d (Dn.DnO d es' ep')) ∧ Kept lp H8 (upd H' d (Dn.DnO d es' ep')) ∧ FW K w (upd H' d (Dn.DnO d es' ep')) lp ((accK k ++ ((partsA l).take (j + 1)).map (moreT tl)).foldl addN []) := by
                intro b' H' s' tal
                refine ⟨lp, b', es9, ep9, _, _, rfl, rfl, s' _ _ e9, d9.k (tupK_same s'), tal, lacc, fun es' ep' dn' => ⟨⟨_, _, rfl⟩, (k9.trans (Same.kept s')).trans kept_upd, (k89.trans (Same.kept s')).trans kept_upd, es', ep', upd_same, ?_⟩⟩
                rw [List.take_add_one, epj, List.map_append, ← List.append_assoc, List.foldl_append]
                exact dn'
              obtain ⟨ys, hys, aly⟩ := htl9
              have lys : ys.length ≤ 20 := by
                have := sil_tl (ls.take i) tl (List.mem_of_getElem? et)
                rw [List.length_take] at this
                have := aly.len
                omega
              have pnm : ∀ x ∈ part, IsNm x := fun x hx => by
                rcases parts_sub l [[]] part (List.mem_of_getElem? epj) x hx with z | ⟨q, hq, z⟩
                · exact nm l (at_mem el) x z
                · rw [List.mem_singleton.mp hq] at z; cases z
              have pdp : ∀ {H'}, Same H9 H' → Dp K H' (.ref pb) (.tuple (part.map .str)) := fun s' => .tup (SqT.of (s' _ _ epb9)) (dp_strs part)
              refine ⟨_, rfl, _, rfl, _, rfl, by show 0 ≤ sizeLine; decide, fun t0 ht0 => ?_⟩
              have s10 := same_new ht0 (.tup [])
              have e10 : upd H9 t0 (.tup []) t0 = some (.tup []) := upd_same
              generalize upd H9 t0 (.tup []) = H10 at s10 e10 ⊢
              refine ⟨.tuple (part.map .str), .tuple [], pdp s10, .tup (SqT.of e10) .nil, (sh_lot pnm).ok (by decide), by decide, _, rfl, ?_⟩
              rw [show PyData.eqv (.tuple (part.map .str)) (.tuple []) = decide (part = []) from eqvAll_map eqv_str part []]
              by_cases cp : part = []
              · subst cp
                refine iteF ⟨by show 0 ≤ sizeLine; decide, fun t1 ht1 => ?_⟩
                have s11 := same_new ht1 (.tup [])
                have e11 : upd H10 t1 (.tup []) t1 = some (.tup []) := upd_same
                generalize upd H10 t1 (.tup []) = H11 at s11 e11 ⊢
                have s911 := s10.trans s11
                refine ⟨tb, t1, ys, [], rfl, rfl, SqTk hys s911, SqT.of e11, by rw [sizeLine_eq]; show _ + 0 ≤ _; omega, fun e => fin t1 H11 s911 ?_, fun _ _ => fin tb H11 s911 ?_, fun _ ne => absurd rfl ne⟩
                · subst e
                  cases aly
                  exact ⟨[], SqT.of e11, .nil⟩
                · have : moreT tl [] = tl := by unfold moreT; rw [if_pos rfl, List.append_nil]
                  rw [this]
                  exact ⟨ys, SqTk hys s911, aly.imp fun v l ⟨c, e, t⟩ => ⟨c, e, SqTk t s911⟩⟩
              · rw [decide_eq_false cp]
                refine iteT ⟨_, rfl, by show 1 ≤ sizeLine; decide, fun t1 ht1 => ?_⟩
                have s11 := same_new ht1 (.tup [V.ref pb])
                have e11 : upd H10 t1 (.tup [V.ref pb]) t1 = some (.tup [V.ref pb]) := upd_same
                generalize upd H10 t1 (.tup [V.ref pb]) = H11 at s11 e11 ⊢
                have s911 := s10.trans s11
                have hm : moreT tl part = tl ++ [part] := by unfold moreT; rw [if_neg cp]
                refine ⟨tb, t1, ys, [V.ref pb], rfl, rfl, SqTk hys s911, SqT.of e11, by rw [sizeLine_eq]; show _ + 1 ≤ _; omega, fun e => fin t1 H11 s911 ?_, fun _ ne => absurd ne (List.cons_ne_nil _ _), fun _ _ t2 ht2 => fin t2 _ (s911.trans (same_new ht2 _)) ?_⟩
                · subst e
                  cases aly
                  rw [hm]
                  exact ⟨_, SqT.of e11, .cons ⟨pb, rfl, SqT.of (s911 _ _ epb9)⟩ .nil⟩
                · rw [hm]
                  have s12 := s911.trans (same_new ht2 (.tup (ys ++ [V.ref pb])))
                  exact ⟨_, SqT.of upd_same, (aly.imp fun v l ⟨c, e, t⟩ => ⟨c, e, SqTk t s12⟩).app (.cons ⟨pb, rfl, SqT.of (s12 _ _ epb9)⟩ .nil)⟩
            · rintro σ H9 ⟨⟨o5, o6, rfl⟩, k9, k89, f9⟩
              rw [alp.len, List.take_length, ← accS et] at f9
              exact ⟨⟨_, _, _, rfl⟩, k9, f9⟩
          · rintro σ H8 ⟨⟨o5, o6, o7, rfl⟩, k8, f8⟩
            refine ⟨⟨_, _, _, rfl⟩, k8, ?_⟩
            have : fnd.take xs2.length = fnd := by rw [al2.len]; exact List.take_length
            have z : accK xs2.length = fnd.flatMap fun t => (partsA l).map (moreT t) := by show (fnd.take _).flatMap _ = _; rw [this]
            rw [z] at f8
            exact f8
        rintro σ H8 ⟨⟨o5, o6, o7, rfl⟩, k8, f8⟩
        refine ⟨_, rfl, ⟨_, _, _, _, _, _, _, rfl, ?_⟩, ?_, ?_⟩
        · rw [List.take_add_one, el]
          show FW K w H8 lp (silF (_ ++ [l]))
          rw [sil_snoc]
          exact f8
        · exact fun b o e => k8 _ _ (s47 _ _ (s4 _ _ e)) (ne_of_none e hlpH)
        · exact k8 _ _ (s47 _ _ ea4) (ne_of_none ea4 hlp4)
      · rintro σ H4 ⟨⟨fp, o2, o3, o4, o5, o6, o7, rfl, f4⟩, s4, ea4⟩
        rw [la, List.take_length] at f4
        exact ⟨⟨_, _, _, _, _, _, _, rfl, f4⟩, s4⟩
    · rintro σ H6 ⟨⟨fp, o2, o3, o4, o5, o6, o7, rfl, es, ep, e6, d6⟩, s6⟩
      refine ⟨_, rfl, fp, es, ep, _, rfl, e6, d6, ?_, q H6 s6⟩
      have := sil_small l8 ls.length
      rw [List.take_length] at this
      rw [sizeLine_eq]; omega
end
end K6

namespace K6
open PySem PySem.Spec PyProof.Rows L2 Hb St Sq Ow En Zp RZ Rd Xb Da Lg LamX Ty Lc
/-! ### _law_sure_right -/
abbrev s__law_sure_right : Stmt := top 43
theorem sc__law_sure_right : FnScope ["lots", "heard", "layings", "events", "due", "never", "always", "at", "lot", "event", "times", "tale", "told", "laid"] ["lots", "heard"] (defScope s__law_sure_right) := ⟨rfl, rfl, rfl, by decide +kernel, rfl, by decide +kernel, by decide +kernel⟩
abbrev qSU : Str := (envOfC "_law_sure_right" (defScope s__law_sure_right) 0 0 .none).qual ++ "<lambda>"
theorem tabs_same {T : List (Addr × Str)} {H H' : Hp} (t : Tabs T H) (s : Same H H') : Tabs T H' := t.ext (fun b o e => s b o e)
theorem PrS.same {H H' : Hp} {v : V} {p : Str × Nat} (h : PrS H v p) (s : Same H H') : PrS H' v p := h.on (.same s)
/-- what stands while the law looks -/
structure SW (K : PySem.W.Frag) (T : List (Addr × Str)) (a b tt uu lp vp : Addr) (its jts lts rows : List V) (ls hs : List LotT) (H : Hp) : Prop where
  tabs : Tabs T H
  ea : H a = some (.lst its)
  al : All2 (LotH H) its ls
  eb : H b = some (.lst jts)
  bl : All2 (LotH H) jts hs
  et : H tt = some (.tup its)
  eu : H uu = some (.tup jts)
  el : H lp = some (.lst lts)
  all : All2 (TupF H) lts (laysL ls hs)
  ev : H vp = some (.lst rows)
  alv : All2 (RowL vp H) rows (evF ls)
variable {K : PySem.W.Frag} {T : List (Addr × Str)} {a b tt uu lp vp : Addr} {its jts lts rows : List V} {ls hs : List LotT} {nms : List Str} {H H' : Hp} {C R : Addr}
theorem SW.same (w : SW K T a b tt uu lp vp its jts lts rows ls hs H) (s : Same H H') : SW K T a b tt uu lp vp its jts lts rows ls hs H' :=
  ⟨tabs_same w.tabs s, s _ _ w.ea, w.al.imp fun _ _ r => r.on (.same s), s _ _ w.eb, w.bl.imp fun _ _ r => r.on (.same s), s _ _ w.et, s _ _ w.eu, s _ _ w.el, w.all.imp fun _ _ r => r.same (Fix.of s), s _ _ w.ev, w.alv.imp fun _ _ r => RowL.same r s⟩
theorem sw_tin (w : SW K T a b tt uu lp vp its jts lts rows ls hs H) (nok : NsOk nms) (okl : ∀ l ∈ ls, LotOk nms l) (okh : ∀ h ∈ hs, LotOk nms h) (ll : ls.length ≤ 7) (lh : hs.length ≤ 8) (e : ExtN H H') : TIn K H' (.ref tt) (.ref uu) (tD ls) (tD hs) ls hs :=
  tin_of nok (e _ _ w.et notbl) (e _ _ w.eu notbl) (w.al.imp fun _ _ h => lotH_ext h e) (w.bl.imp fun _ _ h => lotH_ext h e) okl okh (by omega) (by omega)
theorem sw_good (w : SW K T a b tt uu lp vp its jts lts rows ls hs H) (nok : NsOk nms) (okl : ∀ l ∈ ls, LotOk nms l) (okh : ∀ h ∈ hs, LotOk nms h) (ll : ls.length ≤ 7) (lh : hs.length ≤ 8) (e : ExtN H H') : Good H' (.ref tt) (.ref uu) ls hs nms :=
  ⟨⟨tt, uu, rfl, rfl, ⟨its, e _ _ w.et notbl, w.al.imp fun _ _ h => lotH_ext h e⟩, ⟨jts, e _ _ w.eu notbl, w.bl.imp fun _ _ h => lotH_ext h e⟩⟩, nok, okl, okh, by omega, by omega⟩
theorem extN_same {H H' : Hp} (s : Same H H') : ExtN H H' := fun b o e _ => s b o e
/-- nothing can be laid: that is told -/
theorem sure_no (w : SW K T a b tt uu lp vp its jts lts rows ls hs H) (nok : NsOk nms) (okl : ∀ l ∈ ls, LotOk nms l) (okh : ∀ h ∈ hs, LotOk nms h) (ll : ls.length ≤ 7) (lh : hs.length ≤ 8) (e : ExtN H H') (t' : Tabs T H') (st : stuckN ls hs = some (grL ls hs).length)
    {res : List LotT → List LotT → List (Str × Nat)} {Q : VK} (q : ∀ t H'', Same H' H'' → H'' t = some (.lst [.str (Str.ofString "refused"), .int ((grL ls hs).length : Nat)]) → Q (.ref t) H'') :
    spSure K C R T res [.ref tt, .ref uu] H' Q (eTold K C R Q) := by
  have no := no_first (tale_D nok okl) (tale_D nok okh)
  refine ⟨_, _, _, _, ls, hs, nms, rfl, sw_tin w nok okl okh ll lh e, t', fun _ => sw_good w nok okl okh ll lh e, fun _ z => (by rw [st] at z; cases z), fun m _ em dd H2 s2 ed => ?_, fun k hk => (by rw [no] at hk; cases hk)⟩
  rw [st] at em
  cases em
  exact ⟨dd, _, rfl, ed, .inr ⟨rfl, fun t H3 s3 e3 => q t H3 (s2.trans s3) e3⟩⟩
theorem sure_yes (w : SW K T a b tt uu lp vp its jts lts rows ls hs H) (nok : NsOk nms) (okl : ∀ l ∈ ls, LotOk nms l) (okh : ∀ h ∈ hs, LotOk nms h) (ll : ls.length ≤ 7) (lh : hs.length ≤ 8) (e : ExtN H H') (t' : Tabs T H') (st : stuckN ls hs = none)
    {res : List LotT → List LotT → List (Str × Nat)} {Q : VK} {E : XK} (q : ∀ r its H'', ExtN H' H'' → Tabs T H'' → H'' r = some (.tup its) → All2 (PrS H'') its (res ls hs) → Q (.ref r) H'') :
    spSure K C R T res [.ref tt, .ref uu] H' Q E := by
  have no := no_first (tale_D nok okl) (tale_D nok okh)
  exact ⟨_, _, _, _, ls, hs, nms, rfl, sw_tin w nok okl okh ll lh e, t', fun _ => sw_good w nok okl okh ll lh e, fun _ _ => q, fun m _ em => (by rw [st] at em; cases em), fun k hk => (by rw [no] at hk; cases hk)⟩
/-- events as data -/
def eD (es : List (Str × Nat)) : PyData := .tuple (es.map evPD)
theorem eD_dp {r : Addr} {its : List V} {es : List (Str × Nat)} (e : H r = some (.tup its)) (al : All2 (PrS H) its es) : Dp K H (.ref r) (eD es) := .tup (SqT.of e) (dp_all (f := evPD) (fun _ _ r => r.dp) al)
theorem sel_nm {f : Str → Nat → Bool} (h : ∀ l ∈ ls, ∀ x ∈ l, IsNm x) : ∀ p ∈ srtE (sel ls f), IsNm p.1 := by
  intro p hp
  have hp : p ∈ sel ls f := (List.mergeSort_perm _ _).mem_iff.mp hp
  unfold sel at hp
  obtain ⟨n, hn, hp⟩ := List.mem_flatMap.mp hp
  obtain ⟨x, hx, rfl⟩ := List.mem_map.mp hp
  have hn := List.mem_range.mp hn
  have hx := (List.mem_filter.mp hx).1
  rw [List.getD_eq_getElem?_getD, List.getElem?_eq_getElem hn] at hx
  exact h _ (List.getElem_mem hn) x hx
theorem eD_sh {f : Str → Nat → Bool} (h : ∀ l ∈ ls, ∀ x ∈ l, IsNm x) : SeqAt.shaped (eD (srtE (sel ls f))) = true := (sh_tup (n := 1) fun p hp => sh_evP (sel_nm h p hp)).ok (by decide)
theorem heard_eq (ne : ∀ h ∈ hs, h ≠ []) : heardF ls hs = srtE (sel ls fun x n => (laysL ls hs).all (usesB hs x n)) := by
  unfold heardF
  congr 1
  refine sel_congr fun n hn x hx => ?_
  have z := sil_lays (ls := ls) (hs := hs) (x := x) hn ne
  rw [Bool.eq_iff_iff, List.all_eq_true, ← z]
  constructor
  · intro h
    refine Classical.byContradiction fun c => ?_
    rw [lays_ne c] at h
    cases h
  · intro h
    rw [(lays_nil _ _).mp h]; rfl
theorem ref_sh (m : Int) : SeqAt.shaped (.list [.str (Str.ofString "refused"), .int m]) = true := by
  unfold SeqAt.shaped
  show ((PyData.strOk (Str.ofString "refused") && (true && true)) && decide (max 0 (max 0 0) + 1 ≤ 64)) = true
  rw [show PyData.strOk (Str.ofString "refused") = true by clear m; decide +kernel]; rfl
theorem dp_ref2 {x : Str} {m : Int} {t : Addr} (e : H t = some (.lst [.str x, .int m])) : Dp K H (.ref t) (.list [.str x, .int m]) := .lst (SqL.of e) (.cons (.str _) (.cons (.int _) .nil))
section
variable {P : Program} {w : World} {K : PySem.W.Frag} {mg : Str → Option Value} {base : Heap}
def spSureR (T : List (Addr × Str)) : Sp := fun vs H Q _ => ∃ (a b : Addr) (its jts : List V) (ls hs : List LotT) (nms : List Str), vs = [.ref a, .ref b] ∧ H a = some (.lst its) ∧ All2 (LotH H) its ls ∧ H b = some (.lst jts) ∧ All2 (LotH H) jts hs ∧ NsOk nms ∧ (∀ l ∈ ls, LotOk nms l) ∧ (∀ h ∈ hs, LotOk nms h) ∧ ls.length ≤ 7 ∧ hs.length ≤ 8 ∧ Tabs T H ∧
  ∀ H', ExtN H H' → Tabs T H' → Q (.bl true) H'
theorem ok_surer {f c Pt C R fC fR g : Addr} {T : List (Addr × Str)} {fdg : FuncData} {oc : Value} {od an : Option Addr} {osl : Array (Option Value)} {kV doc pm ct : Value}
    (lk : K.lookup f = some ⟨oc, od, .func (PySem.W.fnOf "_law_sure_right" "_law_sure_right" (defArgs s__law_sure_right) (defBody s__law_sure_right) (defScope s__law_sure_right) .none kV doc pm an (.ref c) ct), osl⟩) (cd : PySem.W.codeIn K (.ref c) "_law_sure_right" = true) (TB : TabB base mg c Pt)
    (inT : (Pt, qSU) ∈ T) (one : ∀ y ∈ T, y.1 = Pt → y.2 = qSU)
    (Fg : Fun K "_law_told" "_law_told" s__law_told g fdg) (bg0 : Binds K fdg ["work"] []) (mtold : mg "_law_told" = some (.ref g)) (TH : ErrC K mg "InvalidHeard" C fC) (TR : ErrC K mg "Refused" R fR) (eRC : PySem.W.exmOne K (.ref R) (.ref C) = some false)
    (C__law_events : Cl P w K mg base "_law_events" ["lots"] [] 1 (spLEvs K)) (C__law_layings : Cl P w K mg base "_law_layings" ["lots", "heard"] [] 1 (spLLay K)) (C__law_without : Cl P w K mg base "_law_without" ["lots", "events", "event"] [] 1 (spLWo K)) (C_heard_for_sure : Cx_ P w K mg base "heard_for_sure" ["lots", "heard"] 9 (spSure K C R T heardF)) (C_silent_for_sure : Cx_ P w K mg base "silent_for_sure" ["lots", "heard"] 9 (spSure K C R T silentF)) (C_stuck_at : Cx_ P w K mg base "stuck_at" ["lots", "heard"] 5 (spStuck K C))
    (K_silent_for_sure : CkX P w K mg base "silent_for_sure" ["lots", "heard"] ["lots", "heard"] (fun _ zs => zs) 9 (spSure K C R T silentF)) (n_enumerate : mg "enumerate" = none) (n_len : mg "len" = none) (n_sorted : mg "sorted" = none) (n_tuple : mg "tuple" = none) :
    FnOk P w K mg base CX0 12 f (PySem.W.fnOf "_law_sure_right" "_law_sure_right" (defArgs s__law_sure_right) (defBody s__law_sure_right) (defScope s__law_sure_right) .none kV doc pm an (.ref c) ct) ["lots", "heard"] (spSureR T) := by
  obtain ⟨⟨ocg, odg, kVg, docg, pmg, ang, cdvg, ctg, oslg, rfl, lkg, cdg'⟩, kpg⟩ := Fg
  have bg := bg0
  refine okC lk cd sc__law_sure_right (fun vs H Q E h => ?_) (fun A outer s H vs Q E hr h => ?_)
  · obtain ⟨_, _, _, _, _, _, _, rfl, _⟩ := h
    rfl
  · obtain ⟨a, b, its, jts, ls, hs, nms, rfl, ea, al, eb, bl, nok, okl, okh, ll, lh, tabs, q⟩ := h
    refine ⟨_, (pss_cons (ps_asg (pe_tup (pa_cons (pe_callTy call_tuple_of (by rfl) n_tuple (by decide +kernel) (pa_cons (pv 0) pa_nil)) (pa_cons (pe_callTy call_tuple_of (by rfl) n_tuple (by decide +kernel) (pa_cons (pv 1) pa_nil)) (pa_cons (pe_use C__law_layings (hr.mono (by decide)) rfl (pa_cons (pv 0) (pa_cons (pv 1) pa_nil))) (pa_cons (pe_use C__law_events (hr.mono (by decide)) rfl (pa_cons (pv 0) pa_nil)) pa_nil))))) (pg_tup rfl (pgs_cons (pg_name (i := 11) sc__law_sure_right.nd rfl (Or.inr rfl)) (pgs_cons (pg_name (i := 12) sc__law_sure_right.nd rfl (Or.inr rfl)) (pgs_cons (pg_name (i := 2) sc__law_sure_right.nd rfl (Or.inl rfl)) (pgs_cons (pg_name (i := 3) sc__law_sure_right.nd rfl (Or.inl rfl)) pgs_nil))))))
    (Evl.pss_cut (ps_if (pt_cmpR (op_eqD hr.units) (pv 2) (pe_lst pa_nil) (nomark _)) (pss_cons (ps_set (i := 4) sc__law_sure_right.nd rfl (Or.inl rfl) (pe_lst (pa_cons pe_str (pa_cons (pe_useX C_stuck_at (hr.mono (by decide)) (fun σ => passAt L2.takes0 σ) rfl (pa_cons (pv 11) (pa_cons (pv 12) pa_nil))) pa_nil))))
    (Evl.pss_cut (ps_if (pt_cmpR (op_neD hr.units) (pe_lamcall (T := T) (t := fun E => tCallS (spSure K C R T silentF) (fun _ => E) (tCons (tVar 11) (tCons (tVar 12) tNil))) (TT := TTold2 K C R) (k := 9) (a := "work") (Ng := ["work", "wrong"]) rfl mtold kpg lkg cdg' bg sc__law_told rfl (.inl rfl) (told2 TH TR eRC) TB rfl inT one (hr.mono (by decide)) (lamS_by rfl) rfl (fun _ _ _ _ _ => rfl) (fun A outer s H E f c' hr2 => pe_useX C_silent_for_sure hr2 (fun σ => passAt (takes_of rfl rfl rfl rfl) σ) rfl (pa_cons (pv 11) (pa_cons (pv 12) pa_nil)))) (pv 4) (nomark _)) (pss_one (ps_ret pe_bl)) pss_nil)
    (pss_one (ps_ret (pe_cmpR (op_eqD hr.units) (pe_lamcall (T := T) (t := fun E => tCallS (spSure K C R T heardF) (fun _ => E) (tCons (tVar 11) (tCons (tVar 12) tNil))) (TT := TTold2 K C R) (k := 9) (a := "work") (Ng := ["work", "wrong"]) rfl mtold kpg lkg cdg' bg sc__law_told rfl (.inl rfl) (told2 TH TR eRC) TB rfl inT one (hr.mono (by decide)) (lamS_by rfl) rfl (fun _ _ _ _ _ => rfl) (fun A outer s H E f c' hr2 => pe_useX C_heard_for_sure hr2 (fun σ => passAt (takes_of rfl rfl rfl rfl) σ) rfl (pa_cons (pv 11) (pa_cons (pv 12) pa_nil)))) (pv 4) (nomark _)))))) pss_nil)
    (pss_cons (ps_par (i := 5) (j := 6) (by rfl) sc__law_sure_right.nd rfl rfl (by decide) rfl rfl (pa_cons (pe_lst pa_nil) (pa_cons (pe_lst pa_nil) pa_nil)) (by rfl))
    (Evl.pss_cut (ps_for PassesOwn.never rfl (pi_enum (by rfl) n_enumerate (pa_cons (pv 3) pa_nil)) (pg_tup rfl (pgs_cons (pg_name (i := 7) sc__law_sure_right.nd rfl (Or.inr rfl)) (pgs_cons (pg_name (i := 8) sc__law_sure_right.nd rfl (Or.inl rfl)) pgs_nil)))
      (pss_one (ps_for PassesOwn.never rfl (pi_seq (pv 8)) (pg_name (i := 9) sc__law_sure_right.nd rfl (Or.inr rfl))
      (Evl.pss_cut (ps_setLc (i := 10) (own := [("laid", 13)]) (g := gName 13) (by rfl) sc__law_sure_right.nd rfl rfl (sw_true rfl rfl rfl (by decide +kernel)) (pi_seq (pv 2)) (blkOk_by (N := ["lots", "heard", "layings", "events", "due", "never", "always", "at", "lot", "event", "times", "tale", "told", "laid"]) (sc := defScope s__law_sure_right) (by decide +kernel)) (fun _ _ _ _ _ => pg_name (i := 13) sc__law_sure_right.nd rfl (Or.inl rfl)) (fun _ _ _ _ _ => pts_one (PW.pt (pw_and (pt_cmpR (r := rIn K false) op_in_seq (pv 7) (pv 13) rfl) (pw_and1 (pt_cmpR (r := rIn K false) op_in_seq (pe_ix (r := rIxT K) ix_tup (pv 9) pe_int (fun _ _ => rfl)) (pe_ix (r := rIxL K) ix_list (pv 1) (pe_bmT (r := rTIndex K) PySem.F.plainAttrs_tuple PySem.F.slot_tuple_index PySem.F.type_tuple_index mt_tindex (pv 13) (pa_cons (pv 7) pa_nil)) (fun _ _ => rfl)) rfl))))) (fun _ _ _ _ _ => pv 13))
    (Evl.pss_cut (ps_set (i := 5) sc__law_sure_right.nd rfl (Or.inl rfl) (pe_op op_cat (pv 5) (pe_ifExp (pt_cmpR (op_eqD hr.units) (pv 10) (pe_lst pa_nil) (nomark _)) (pe_lst (pa_cons (pv 9) pa_nil)) (pe_lst pa_nil))))
    (Evl.pss_cut (ps_set (i := 6) sc__law_sure_right.nd rfl (Or.inl rfl) (pe_op op_cat (pv 6) (pe_ifExp (pt_cmpR op_eq (pe_callB call_len_seq (by rfl) n_len PySem.boot_len (pa_cons (pv 10) pa_nil)) (pe_callB call_len_seq (by rfl) n_len PySem.boot_len (pa_cons (pv 2) pa_nil)) (nomark _)) (pe_lst (pa_cons (pv 9) pa_nil)) (pe_lst pa_nil))))
    (pss_one (ps_if (pt_cmpR op_ne (pe_cmpR op_eq (pe_callB call_len_seq (by rfl) n_len PySem.boot_len (pa_cons (pv 10) pa_nil)) (pe_callB call_len_seq (by rfl) n_len PySem.boot_len (pa_cons (pv 2) pa_nil)) (nomark _)) (pe_cmpR (op_eqD hr.units) (pe_use C__law_layings (hr.mono (by decide)) rfl (pa_cons (pe_use C__law_without (hr.mono (by decide)) rfl (pa_cons (pv 0) (pa_cons (pv 3) (pa_cons (pv 9) pa_nil)))) (pa_cons (pv 1) pa_nil))) (pe_lst pa_nil) (nomark _)) (nomark _)) (pss_one (ps_ret pe_bl)) pss_nil))))))))
    (Evl.pss_cut (ps_if (pt_cmpR (op_neD hr.units) (pe_useKX K_silent_for_sure (hr.mono (by decide)) (passes_call L2.takes0 fun _ _ _ _ h => h) rfl (pk_cons (pv 11) (pk_cons (pv 12) pk_nil))) (pe_callTy call_tuple_of (by rfl) n_tuple (by decide +kernel) (pa_cons (pe_callB (cr_sortD hr.units) (by rfl) n_sorted (by decide +kernel) (pa_cons (pv 5) pa_nil)) pa_nil)) (nomark _)) (pss_one (ps_ret pe_bl)) pss_nil)
    (pss_one (ps_ret (pe_cmpR (op_eqD hr.units) (pe_useX C_heard_for_sure (hr.mono (by decide)) (fun σ => passAt L2.takes0 σ) rfl (pa_cons (pv 11) (pa_cons (pv 12) pa_nil))) (pe_callTy call_tuple_of (by rfl) n_tuple (by decide +kernel) (pa_cons (pe_callB (cr_sortD hr.units) (by rfl) n_sorted (by decide +kernel) (pa_cons (pv 6) pa_nil)) pa_nil)) (nomark _))))))))), ?_⟩
    have lens : ∀ h ∈ hs, h.length ≤ 1000 ∧ ∀ x ∈ h, IsNm x := fun h hh => ⟨by have := lot_len nok (okh h hh); omega, fun x hx => nok.nm x ((okh h hh).2.2 x hx)⟩
    have lensl : ∀ l ∈ ls, l.length ≤ 1000 ∧ ∀ x ∈ l, IsNm x := fun h hh => ⟨by have := lot_len nok (okl h hh); omega, fun x hx => nok.nm x ((okl h hh).2.2 x hx)⟩
    refine ⟨_, rfl, a, _, rfl, .inl ⟨SqL.of ea, fun tt ht => ?_⟩⟩
    have s1 := same_new ht (.tup its)
    have et1 : upd H tt (.tup its) tt = some (.tup its) := upd_same
    generalize upd H tt (.tup its) = H1 at s1 et1 ⊢
    refine ⟨_, rfl, b, _, rfl, .inl ⟨SqL.of (s1 _ _ eb), fun uu hu => ?_⟩⟩
    have s2 := same_new hu (.tup jts)
    have eu2 : upd H1 uu (.tup jts) uu = some (.tup jts) := upd_same
    generalize upd H1 uu (.tup jts) = H2 at s2 eu2 ⊢
    have s02 := s1.trans s2
    refine ⟨_, rfl, _, rfl, a, b, ls, hs, rfl, ⟨its, s02 _ _ ea, al.imp fun _ _ r => lotH_S (r.on (.same s02))⟩, ⟨jts, s02 _ _ eb, bl.imp fun _ _ r => lotH_S (r.on (.same s02))⟩, ll, lens, fun lp lts H3 s3 e3 al3 => ?_⟩
    have s03 := s02.trans s3
    refine ⟨_, rfl, a, its, ls, rfl, s03 _ _ ea, al.imp fun _ _ r => r.on (.same s03), by omega, fun l hl => (lensl l hl).1, fun vp rows H4 _ s4 e4 al4 => ?_⟩
    have s04 := s03.trans s4
    refine ⟨by show 4 ≤ sizeLine; decide, fun t5 h5 => ⟨t5, _, rfl, SqT.of upd_same, rfl, _, _, rfl, _, _, rfl, _, _, rfl, _, _, rfl, rfl, ?_⟩⟩
    have s5 := same_new h5 (.tup [V.ref tt, V.ref uu, V.ref lp, V.ref vp])
    have w5 : SW K T a b tt uu lp vp its jts lts rows ls hs (upd H4 t5 (.tup [V.ref tt, V.ref uu, V.ref lp, V.ref vp])) := by
      refine SW.same (H := H4) ?_ s5
      exact ⟨tabs_same tabs s04, s04 _ _ ea, al.imp fun _ _ r => r.on (.same s04), s04 _ _ eb, bl.imp fun _ _ r => r.on (.same s04), (s2.trans (s3.trans s4)) _ _ et1, (s3.trans s4) _ _ eu2, s4 _ _ e3, al3.imp fun _ _ r => r.same (Fix.of s4), e4, al4⟩
    have s05 := s04.trans s5
    generalize upd H4 t5 (.tup [V.ref tt, V.ref uu, V.ref lp, V.ref vp]) = H5 at w5 s5 s05 ⊢
    clear s1 s2 s3 s4 s5 et1 eu2 e3 al3 e4 al4 h5 hu ht s02 s03 s04
    have q5 : ∀ H', ExtN H5 H' → Tabs T H' → Q (.bl true) H' := fun H' x t => q H' (fun b o e n => x _ _ (s05 _ _ e) n) t
    clear q s05 tabs ea al eb bl
    let L := laysL ls hs
    refine ⟨fun σ H' => (∃ o4 o5 o6 o7 o8 o9 o10 o13, σ = [some (.ref a), some (.ref b), some (.ref lp), some (.ref vp), o4, o5, o6, o7, o8, o9, o10, some (.ref tt), some (.ref uu), o13]) ∧ Same H5 H' ∧ L ≠ [], ?_, ?_⟩
    · refine ⟨_, rfl, by show 0 ≤ sizeLine; decide, fun t0 k0 => ?_⟩
      have s6 := same_new k0 (.lst [])
      have w6 := w5.same s6
      have e6 : upd H5 t0 (.lst []) t0 = some (.lst []) := upd_same
      generalize upd H5 t0 (.lst []) = H6 at s6 e6 w6 ⊢
      refine ⟨dL L, .list [], dL_dp w6.el w6.all, .lst (SqL.of e6) .nil, (dL_sh _).ok (by decide), by decide, _, rfl, ?_⟩
      rw [dL_eq]
      by_cases c : L = []
      · rw [decide_eq_true c]
        have st := (lays_nil ls hs).mp c
        have no := no_first (tale_D nok okl) (tale_D nok okh)
        refine iteT ⟨_, rfl, _, rfl, _, _, _, _, ls, hs, rfl, sw_tin w6 nok okl okh ll lh (extN_same (Same.refl _)), fun _ H7 s7 => ?_, fun k hk => by rw [no] at hk; cases hk⟩
        rw [st]
        have w7 := w6.same s7
        let m : Int := ((grL ls hs).length : Nat)
        have em : optV (some (grL ls hs).length) = .int m := rfl
        rw [em]
        refine ⟨by show 2 ≤ sizeLine; decide, fun dp hdp => ?_⟩
        have s8 := same_new hdp (.lst [V.str (Str.ofString "refused"), .int m])
        have e8 : upd H7 dp (.lst [V.str (Str.ofString "refused"), .int m]) dp = some (.lst [V.str (Str.ofString "refused"), .int m]) := upd_same
        have w8 := w7.same s8
        have s58 : Same H5 (upd H7 dp (.lst [V.str (Str.ofString "refused"), .int m])) := (s6.trans s7).trans s8
        generalize upd H7 dp (.lst [V.str (Str.ofString "refused"), .int m]) = H8 at s8 e8 w8 s58 ⊢
        have rfr : PyData.eqv (.list [.str (Str.ofString "refused"), .int m]) (.list [.str (Str.ofString "refused"), .int m]) = true := sh_refl (ref_sh m)
        let σ8 : L2.St := [some (.ref a), some (.ref b), some (.ref lp), some (.ref vp), some (.ref dp), none, none, none, none, none, none, some (.ref tt), some (.ref uu), none]
        refine ⟨fun σ H' => σ = σ8 ∧ ExtN H8 H' ∧ Tabs T H', ?_, ?_⟩
        · refine ⟨w8.tabs, fun H9 x9 t9 => ⟨_, rfl, _, rfl, ?_⟩⟩
          dsimp only [tNil]
          refine sure_no (C := C) (R := R) w8 nok okl okh ll lh x9 t9 st fun t H10 s10 e10 => ?_
          refine ⟨_, rfl, _, _, dp_ref2 e10, dp_ref2 (s10 _ _ (x9 _ _ e8 notbl_l)), ref_sh m, ref_sh m, _, rfl, ?_⟩
          rw [rfr]
          exact iteF ⟨rfl, fun b o e n => s10 _ _ (x9 _ _ e n), tabs_same t9 s10⟩
        · rintro σ H9 ⟨rfl, x9, t9⟩
          refine ⟨t9, fun H10 x10 t10 => ⟨_, rfl, _, rfl, ?_⟩⟩
          dsimp only [tNil]
          refine sure_no (C := C) (R := R) w8 nok okl okh ll lh (fun b o e n => x10 _ _ (x9 _ _ e n) n) t10 st fun t H11 s11 e11 => ?_
          refine ⟨_, rfl, _, _, dp_ref2 e11, dp_ref2 (s11 _ _ (x10 _ _ (x9 _ _ e8 notbl_l) notbl_l)), ref_sh m, ref_sh m, ?_⟩
          rw [rfr]
          exact q5 _ (fun b o e n => s11 _ _ (x10 _ _ (x9 _ _ (s58 _ _ e) n) n)) (tabs_same t10 s11)
      · rw [decide_eq_false c]
        exact iteF ⟨⟨_, _, _, _, _, _, _, _, rfl⟩, s6, c⟩
    · rintro σ H6 ⟨⟨o4, o5, o6, o7, o8, o9, o10, o13, rfl⟩, s6, ne⟩
      have w6 := w5.same s6
      have stN : stuckN ls hs = none := lays_ne ne
      have no := no_first (tale_D nok okl) (tale_D nok okh)
      let wN : Str → Nat → Bool := fun x n => !L.any (usesB hs x n)
      let wA : Str → Nat → Bool := fun x n => L.all (usesB hs x n)
      refine ⟨by show 0 ≤ sizeLine; decide, fun nv0 hnv => ⟨by show 0 ≤ sizeLine; decide, fun av0 hav => ?_⟩⟩
      have s7 := same_new hnv (.lst [])
      have s8 := same_new hav (.lst [])
      have en8 := s8 _ _ (show upd H6 nv0 (.lst []) nv0 = some (.lst []) from upd_same)
      have ea8 : upd (upd H6 nv0 (.lst [])) av0 (.lst []) av0 = some (.lst []) := upd_same
      have s68 : Same H6 (upd (upd H6 nv0 (.lst [])) av0 (.lst [])) := s7.trans s8
      generalize upd (upd H6 nv0 (.lst [])) av0 (.lst []) = H8 at en8 ea8 s68 ⊢
      dsimp only [tNil]
      refine ⟨_, _, rfl, ?_⟩
      let PvN : List (Str × Nat) → List (Str × Nat) → L2.St → Hp → Prop := fun A B σ H' => ∃ nv av nits aits o4 o7 o8 o9 o10 o13, σ = [some (.ref a), some (.ref b), some (.ref lp), some (.ref vp), o4, some (.ref nv), some (.ref av), o7, o8, o9, o10, some (.ref tt), some (.ref uu), o13] ∧
        Same H6 H' ∧ H' nv = some (.lst nits) ∧ All2 (PrS H') nits A ∧ H' av = some (.lst aits) ∧ All2 (PrS H') aits B
      refine ⟨PvN (sel ls wN) (sel ls wA), ?_, ?_⟩
      · refine ⟨_, rfl, vp, rows, rfl, SqL.of (s68 _ _ w6.ev), ?_⟩
        refine for_en en_list (fun n σ H' => PvN (selJ ls wN n) (selJ ls wA n) σ H') ⟨nv0, av0, [], [], _, _, _, _, _, _, rfl, s68, en8, .nil, ea8, .nil⟩ (fun n σ H' pv => SqL.of (let ⟨_, _, _, _, _, _, _, _, _, _, _, s, _⟩ := pv; s _ _ w6.ev)) ?_ ?_
        · rintro n σ H9 x t ex ⟨nv, av, nits, aits, o4, o7, o8, o9, o10, o13, rfl, s9, en9, aln9, eav9, ala9⟩ ht
          have s10 := same_new ht (.tup [.int (n : Nat), x])
          have e10 : upd H9 t (.tup [.int (n : Nat), x]) t = some (.tup [.int (n : Nat), x]) := upd_same
          refine ⟨t, _, rfl, SqT.of e10, rfl, _, _, rfl, _, _, rfl, rfl, ?_⟩
          have s610 := s9.trans s10
          have en10 := s10 _ _ en9
          have eav10 := s10 _ _ eav9
          have aln10 := aln9.imp fun _ _ r => PrS.same r s10
          have ala10 := ala9.imp fun _ _ r => PrS.same r s10
          generalize upd H9 t (.tup [.int (n : Nat), x]) = H10 at s10 e10 s610 en10 eav10 aln10 ala10 ⊢
          clear e10 ht s10 aln9 ala9 en9 eav9 s9
          have w10 := w6.same s610
          obtain ⟨r, er, rb, rits, rfl, _, erb, alr⟩ := w10.alv.get ex
          have hn : n < ls.length := by
            have := (List.getElem?_eq_some_iff.mp er).1
            unfold evF at this
            rwa [List.length_map, List.length_range] at this
          obtain rfl : r = evR ls n := by
            unfold evF at er
            rw [List.getElem?_map, List.getElem?_range hn] at er
            exact (Option.some.inj er).symm
          refine ⟨_, rfl, rb, rits, rfl, SqX.lst erb, fun J S W z0 => ?_⟩
          refine for_sq W (fun j σ H' => (∃ nv av nits aits o4 o9 o10 o13, σ = [some (.ref a), some (.ref b), some (.ref lp), some (.ref vp), o4, some (.ref nv), some (.ref av), some (.int (n : Nat)), some (.ref rb), o9, o10, some (.ref tt), some (.ref uu), o13] ∧
            Same H10 H' ∧ H' nv = some (.lst nits) ∧ All2 (PrS H') nits (selJ ls wN n ++ ((evR ls n).take j).filter fun p => wN p.1 n) ∧ H' av = some (.lst aits) ∧ All2 (PrS H') aits (selJ ls wA n ++ ((evR ls n).take j).filter fun p => wA p.1 n)))
            ⟨nv, av, nits, aits, _, _, _, _, rfl, Same.refl _, en10, by rw [List.take_zero, List.filter_nil, List.append_nil]; exact aln10, eav10, by rw [List.take_zero, List.filter_nil, List.append_nil]; exact ala10⟩ (fun j σ H' pv => W.keep (fun o e => let ⟨_, _, _, _, _, _, _, _, _, s, _⟩ := pv; s _ _ e) z0) ?_ ?_
          · rintro j σ H11 y ey ⟨nv, av, nits, aits, o4, o9, o10, o13, rfl, s11, en, aln, eav, ala⟩
            obtain ⟨p, ep, eb', rfl, epb⟩ := alr.get ey
            have w11 := w10.same s11
            have epb11 := s11 _ _ epb
            obtain ⟨hx, hp2⟩ : p.1 ∈ ls.getD n [] ∧ p = (p.1, turnN ls n p.1) := by
              have := at_mem ep
              unfold evR at this
              obtain ⟨x, hx, rfl⟩ := List.mem_map.mp this
              exact ⟨hx, rfl⟩
            let F := L.filter fun laid => usesL hs p.1 n laid
            have L128 : L.length ≤ 128 := Nat.le_trans (lays_le ls.length (okL ls) hs) (by have : 2 ^ ls.length ≤ 2 ^ 7 := Nat.pow_le_pow_right (by decide) ll; omega)
            have F128 : F.length ≤ 128 := Nat.le_trans (List.length_filter_le _ _) L128
            have hF : F = L.filter (usesB hs p.1 n) := List.filter_congr fun laid hl => uses_law (Ks.mem_lay.mp hl)
            have d1 : decide (F = []) = wN p.1 n := by
              show _ = !L.any (usesB hs p.1 n)
              rw [hF, Bool.eq_iff_iff, decide_eq_true_iff, List.filter_eq_nil_iff, Bool.not_eq_true', List.any_eq_false]
            have d2 : decide (F.length = L.length) = wA p.1 n := by
              show _ = L.all (usesB hs p.1 n)
              rw [hF, Bool.eq_iff_iff, decide_eq_true_iff, List.length_filter_eq_length_iff, List.all_eq_true]
            have d3 : decide (laysL (silN ls p.1 n) hs = []) = wA p.1 n := by
              show _ = L.all (usesB hs p.1 n)
              rw [Bool.eq_iff_iff, decide_eq_true_iff, sil_lays hn (fun h hh => (okh h hh).1), List.all_eq_true]
            let σW : Option V → Option V → Option V → Option V → Option V → L2.St := fun o4 o5 o6 o10 o13 => [some (.ref a), some (.ref b), some (.ref lp), some (.ref vp), o4, o5, o6, some (.int (n : Nat)), some (.ref rb), some (.ref eb'), o10, some (.ref tt), some (.ref uu), o13]
            refine ⟨fun σ H' => ∃ tp tits o13, σ = σW o4 (some (.ref nv)) (some (.ref av)) (some (.ref tp)) o13 ∧ Same H11 H' ∧ H' tp = some (.lst tits) ∧ All2 (TupF H') tits F, ?_, ?_⟩
            · refine ⟨_, rfl, lp, lts, rfl, SqX.lst w11.el, fun J2 S2 W2 z2 D hD => ?_⟩
              refine lc_mf (ds := L) W2 (fun laid => usesL hs p.1 n laid) (fun H v l => TupF H v l) z2 hD w11.all.len (fun i v laid H' ev' el' s m => ?_) (fun H12 ys s12 e12 al12 => ?_)
              · obtain ⟨laid2, el2, lb, rfl, tz⟩ := w11.all.get ev'
                obtain rfl : laid2 = laid := Option.some.inj (el2.symm.trans el')
                have tzs : TupZ H' lb (laid2.map natV) := let ⟨o, h1, h2⟩ := tz; ⟨o, h1, s _ _ h2⟩
                have isl : LayL ls hs laid2 := Ks.mem_lay.mp (at_mem el')
                have flN : (laid2.map natV).all flatV = true := by rw [List.all_map]; exact List.all_eq_true.mpr fun _ _ => rfl
                have mono : ∀ (H H' : Hp) (y : V) (d : List Nat), Fix H H' → TupF H y d → TupF H' y d := fun _ _ _ _ f h => h.same f
                have L128 : L.length ≤ 100000 := by omega
                refine ⟨rfl, _, rfl, _, rfl, lb, _, rfl, .inr tzs.sq, rfl, flN, _, rfl, ?_⟩
                rw [show inV (V.int ((n : Nat) : Int)) (laid2.map natV) = decide (n ∈ laid2) from inV_nats n laid2]
                refine iteD (fun c => ?_) fun c => ?_
                · have li := List.idxOf_lt_length_of_mem c
                  have lh' : laid2.idxOf n < hs.length := by rw [← isl.len]; exact li
                  obtain ⟨hd, ehd⟩ : ∃ hd, hs[laid2.idxOf n]? = some hd := ⟨_, List.getElem?_eq_getElem lh'⟩
                  obtain ⟨hv, ehv, hb2, rfl, ehb⟩ := w11.bl.getR ehd
                  refine ⟨_, rfl, eb', _, 0, _, rfl, rfl, SqT.of (s _ _ epb11), rfl, _, rfl, _, rfl, lb, _, rfl, tzs, _, rfl, lb, _, .int (n : Nat), laid2.idxOf n, natV n, rfl, rfl, tzs.sq, rfl, flN, ?_, ?_, ?_, ?_⟩
                  · rw [List.getElem?_map, List.getElem?_eq_getElem li, List.getElem_idxOf]; rfl
                  · show (((n : Nat) : Int) == ((n : Nat) : Int)) = true
                    exact beq_self_eq_true _
                  · intro m2 z' hm2 hz'
                    have hm3 : m2 < laid2.length := by omega
                    rw [List.getElem?_map, List.getElem?_eq_getElem hm3] at hz'
                    have hz' := Option.some.inj hz'
                    rw [← hz']
                    have nd2 : laid2.Nodup := isl.asc.imp fun {a b} (h : a < b) => Nat.ne_of_lt h
                    have ne2 : laid2[m2] ≠ n := fun z => by
                      have := (List.getElem_inj nd2 (h₀ := hm3) (h₁ := li)).mp (by rw [z, List.getElem_idxOf])
                      omega
                    show (((laid2[m2] : Nat) : Int) == ((n : Nat) : Int)) = false
                    exact beq_eq_false_iff_ne.mpr fun z => ne2 (by omega)
                  · refine ⟨b, jts, ((laid2.idxOf n : Nat) : Int), .ref hb2, rfl, rfl, SqL.of (s _ _ w11.eb), atI_nat ehv, hb2, _, rfl, .inr (SqT.of (s _ _ ehb)), rfl, flat_strs hd, _, rfl, ?_⟩
                    rw [inV_strs]
                    have eu : usesL hs p.1 n laid2 = decide (p.1 ∈ hd) := by
                      unfold usesL
                      rw [decide_eq_true c, Bool.true_and, List.getD_eq_getElem?_getD, ehd]; rfl
                    rw [← eu]
                    cases cu : usesL hs p.1 n laid2 with
                    | true => exact iteT ⟨_, rfl, mf_yes m hD mono el' L128 (Same.refl _) cu ⟨lb, rfl, tzs⟩⟩
                    | false => exact iteF (mf_no m mono el' (Same.refl _) cu)
                · have cu : usesL hs p.1 n laid2 = false := by
                    unfold usesL
                    rw [decide_eq_false c]; rfl
                  exact iteF (mf_no m mono el' (Same.refl _) cu)
              · exact ⟨D, ys, _, rfl, s12, e12, al12⟩
            rintro σ H12 ⟨tp, tits, o13', rfl, s12, etp, altp⟩
            have en12 := s12 _ _ en
            have eav12 := s12 _ _ eav
            have aln12 := aln.imp fun _ _ r => PrS.same r s12
            have ala12 := ala.imp fun _ _ r => PrS.same r s12
            have pr12 : PrS H12 (.ref eb') p := ⟨eb', rfl, s12 _ _ epb11⟩
            have dI : ∀ u v : Nat, decide (V.int (u : Nat) = V.int (v : Nat)) = decide (u = v) := fun u v => decide_eq_decide.mpr ⟨fun z => by injection z with z; omega, fun z => by rw [z]⟩
            have lA : ∀ (f : Str → Nat → Bool), (selJ ls f n ++ ((evR ls n).take j).filter fun p => f p.1 n).length ≤ 1000 := fun f => by
              have h1 := selJ_len (ls := ls) (want := f) (k := 4) (fun l hl => lot_len nok (okl l hl)) n
              have h2 := List.length_filter_le (fun p : Str × Nat => f p.1 n) ((evR ls n).take j)
              have h3 : ((evR ls n).take j).length ≤ (evR ls n).length := by rw [List.length_take]; exact Nat.min_le_right _ _
              have h4 : (evR ls n).length ≤ 4 := by
                unfold evR
                rw [List.length_map, List.getD_eq_getElem?_getD, List.getElem?_eq_getElem hn]
                exact lot_len nok (okl _ (List.getElem_mem hn))
              have h5 : n * 4 ≤ 7 * 4 := Nat.mul_le_mul_right _ (by omega)
              rw [List.length_append]
              omega
            have tk : ∀ (f : Str → Nat → Bool), selJ ls f n ++ ((evR ls n).take (j + 1)).filter (fun p => f p.1 n) = (selJ ls f n ++ ((evR ls n).take j).filter fun p => f p.1 n) ++ (if f p.1 n = true then [p] else []) := fun f => by
              rw [List.take_add_one, ep, List.filter_append, List.append_assoc]
              congr 2
              show [p].filter _ = _
              rw [List.filter_cons, List.filter_nil]
            refine ⟨fun σ H' => ∃ nv' nits', σ = σW o4 (some (.ref nv')) (some (.ref av)) (some (.ref tp)) o13' ∧ Same H12 H' ∧ H' nv' = some (.lst nits') ∧ All2 (PrS H') nits' (selJ ls wN n ++ ((evR ls n).take (j + 1)).filter fun p => wN p.1 n), ?_, ?_⟩
            · refine ⟨_, rfl, _, rfl, by show 0 ≤ sizeLine; decide, fun t0 k0 => ?_⟩
              have s13 := same_new k0 (.lst [])
              have e13 : upd H12 t0 (.lst []) t0 = some (.lst []) := upd_same
              generalize upd H12 t0 (.lst []) = H13 at s13 e13 ⊢
              refine ⟨dL F, .list [], dL_dp (s13 _ _ etp) (altp.imp fun _ _ r => r.same (Fix.of s13)), .lst (SqL.of e13) .nil, (dL_sh _).ok (by decide), by decide, _, rfl, ?_⟩
              rw [dL_eq, d1]
              have lz := aln.len
              have lz2 := lA wN
              cases cN : wN p.1 n with
              | true =>
                refine iteT ⟨_, rfl, by show 1 ≤ sizeLine; decide, fun l1 hl1 => ?_⟩
                have s14 := same_new hl1 (.lst [V.ref eb'])
                refine ⟨nv, l1, nits, [.ref eb'], rfl, rfl, (s13.trans s14) _ _ en12, upd_same, by rw [lz, sizeLine_eq]; show _ + 1 ≤ _; omega, fun c kc => ?_⟩
                have s15 := ((s13.trans s14).trans (same_new kc (.lst (nits ++ [V.ref eb']))))
                refine ⟨c, _, rfl, s15, upd_same, ?_⟩
                rw [tk, cN, if_pos rfl]
                exact (aln12.imp fun _ _ r => PrS.same r s15).app (.cons (pr12.same s15) .nil)
              | false =>
                refine iteF ⟨by show 0 ≤ sizeLine; decide, fun l1 hl1 => ?_⟩
                have s14 := same_new hl1 (.lst [])
                refine ⟨nv, l1, nits, [], rfl, rfl, (s13.trans s14) _ _ en12, upd_same, by rw [lz, sizeLine_eq]; show _ + 0 ≤ _; omega, fun c kc => ?_⟩
                have s15 := ((s13.trans s14).trans (same_new kc (.lst (nits ++ []))))
                refine ⟨c, _, rfl, s15, upd_same, ?_⟩
                rw [tk, cN, if_neg (by decide)]
                exact (aln12.imp fun _ _ r => PrS.same r s15).app .nil
            rintro σ H13 ⟨nv', nits', rfl, s13, en13, aln13⟩
            have w13 := (w11.same s12).same s13
            refine ⟨fun σ H' => ∃ av' aits', σ = σW o4 (some (.ref nv')) (some (.ref av')) (some (.ref tp)) o13' ∧ Same H13 H' ∧ H' av' = some (.lst aits') ∧ All2 (PrS H') aits' (selJ ls wA n ++ ((evR ls n).take (j + 1)).filter fun p => wA p.1 n), ?_, ?_⟩
            · have etp13 := s13 _ _ etp
              have ltp : tits.length = F.length := altp.len
              have llt : lts.length = L.length := w11.all.len
              refine ⟨_, rfl, _, rfl, _, _, rfl, .inl (SqL.of etp13), _, rfl, lp, _, rfl, .inl (SqL.of w13.el), rfl, _, rfl, ?_⟩
              rw [ltp, llt, dI, d2]
              have lz := ala.len
              have lz2 := lA wA
              have eav13 := s13 _ _ eav12
              have ala13 := ala12.imp fun _ _ r => PrS.same r s13
              have pr13 := pr12.same s13
              cases cA : wA p.1 n with
              | true =>
                refine iteT ⟨_, rfl, by show 1 ≤ sizeLine; decide, fun l1 hl1 => ?_⟩
                have s14 := same_new hl1 (.lst [V.ref eb'])
                refine ⟨av, l1, aits, [.ref eb'], rfl, rfl, s14 _ _ eav13, upd_same, by rw [lz, sizeLine_eq]; show _ + 1 ≤ _; omega, fun c kc => ?_⟩
                have s15 := (s14.trans (same_new kc (.lst (aits ++ [V.ref eb']))))
                refine ⟨c, _, rfl, s15, upd_same, ?_⟩
                rw [tk, cA, if_pos rfl]
                exact (ala13.imp fun _ _ r => PrS.same r s15).app (.cons (pr13.same s15) .nil)
              | false =>
                refine iteF ⟨by show 0 ≤ sizeLine; decide, fun l1 hl1 => ?_⟩
                have s14 := same_new hl1 (.lst [])
                refine ⟨av, l1, aits, [], rfl, rfl, s14 _ _ eav13, upd_same, by rw [lz, sizeLine_eq]; show _ + 0 ≤ _; omega, fun c kc => ?_⟩
                have s15 := (s14.trans (same_new kc (.lst (aits ++ []))))
                refine ⟨c, _, rfl, s15, upd_same, ?_⟩
                rw [tk, cA, if_neg (by decide)]
                exact (ala13.imp fun _ _ r => PrS.same r s15).app .nil
            rintro σ H14 ⟨av', aits', rfl, s14, ea14, al14⟩
            have w14 := w13.same s14
            have etp14 := s14 _ _ (s13 _ _ etp)
            have ltp : tits.length = F.length := altp.len
            have llt : lts.length = L.length := w11.all.len
            have ewo : woF ls p ls.length = silN ls p.1 n := by
              rw [hp2]
              exact wo_sil (fun l hl => (okl l hl).1) hx hn
            obtain ⟨sl, _⟩ := sil_lots okl p.1 n
            have sn : (silN ls p.1 n).length ≤ 7 := by
              unfold silN
              rw [List.length_append, List.length_append, List.length_take, List.length_drop]
              split
              · show _ + 0 + _ ≤ _; omega
              · show _ + 1 + _ ≤ _; omega
            have nmp : IsNm p.1 := by
              have hm : ls.getD n [] ∈ ls := by
                rw [List.getD_eq_getElem?_getD, List.getElem?_eq_getElem hn]
                exact List.getElem_mem hn
              exact nok.nm _ ((okl _ hm).2.2 _ hx)
            refine ⟨_, rfl, _, _, rfl, .inl (SqL.of etp14), _, rfl, lp, _, rfl, .inl (SqL.of w14.el), rfl, ?_⟩
            rw [ltp, llt, dI, d2]
            refine ⟨_, rfl, _, rfl, _, rfl, a, vp, .ref eb', its, rows, ls, p, rfl, w14.ea, w14.al, w14.ev, w14.alv, (pr12.same s13).same s14, nmp, by omega, lensl, fun r kts H15 s15 er alr2 => ?_⟩
            rw [ewo] at alr2
            have w15 := w14.same s15
            refine ⟨_, rfl, r, b, silN ls p.1 n, hs, rfl, ⟨kts, er, alr2.imp fun _ _ r => lotH_S r⟩, ⟨jts, w15.eb, w15.bl.imp fun _ _ r => lotH_S r⟩, sn, lens, fun q1 qits H16 s16 eq1 alq => ?_⟩
            refine ⟨by show 0 ≤ sizeLine; decide, fun t0 k0 => ?_⟩
            have s17 := same_new k0 (.lst [])
            have e17 : upd H16 t0 (.lst []) t0 = some (.lst []) := upd_same
            generalize upd H16 t0 (.lst []) = H17 at s17 e17 ⊢
            refine ⟨dL (laysL (silN ls p.1 n) hs), .list [], dL_dp (s17 _ _ eq1) (alq.imp fun _ _ r => r.same (Fix.of s17)), .lst (SqL.of e17) .nil, (dL_sh _).ok (by decide), by decide, ?_⟩
            rw [dL_eq, d3]
            have s1417 := (s15.trans s16).trans s17
            refine ⟨rfl, _, rfl, ?_⟩
            rw [show (!decide (V.bl (wA p.1 n) = V.bl (wA p.1 n))) = false by rw [decide_eq_true rfl]; rfl]
            exact iteF ⟨nv', av', nits', aits', _, _, _, _, rfl, (((s11.trans s12).trans s13).trans s14).trans s1417, (s14.trans s1417) _ _ en13, aln13.imp fun _ _ r => PrS.same r (s14.trans s1417), s1417 _ _ ea14, al14.imp fun _ _ r => PrS.same r s1417⟩
          · rintro σ H11 ⟨nv, av, nits, aits, o4, o9, o10, o13, rfl, s11, en, aln, eav, ala⟩
            rw [alr.len, List.take_length, ← selJ_succ] at aln ala
            exact ⟨nv, av, nits, aits, _, _, _, _, _, _, rfl, s610.trans s11, en, aln, eav, ala⟩
        · rintro σ H9 ⟨nv, av, nits, aits, o4, o7, o8, o9, o10, o13, rfl, s9, en9, aln9, eav9, ala9⟩
          have lr : rows.length = ls.length := by
            have := w6.alv.len
            unfold evF at this
            rwa [List.length_map, List.length_range] at this
          rw [lr, selJ_all] at aln9 ala9
          exact ⟨nv, av, nits, aits, _, _, _, _, _, _, rfl, s9, en9, aln9, eav9, ala9⟩
      · rintro σ H9 ⟨nv, av, nits, aits, o4, o7, o8, o9, o10, o13, rfl, s9, en9, aln9, eav9, ala9⟩
        have w9 := w6.same s9
        have nml : ∀ l ∈ ls, ∀ x ∈ l, IsNm x := fun l hl => (lensl l hl).2
        have hE := heard_eq (ls := ls) fun h hh => (okh h hh).1
        have x59 : ExtN H5 H9 := extN_same (s6.trans s9)
        let σ9 : L2.St := [some (.ref a), some (.ref b), some (.ref lp), some (.ref vp), o4, some (.ref nv), some (.ref av), o7, o8, o9, o10, some (.ref tt), some (.ref uu), o13]
        refine ⟨fun σ H' => σ = σ9 ∧ ExtN H9 H' ∧ Tabs T H', ?_, ?_⟩
        · refine ⟨_, rfl, _, rfl, rfl, rfl, sure_yes (C := C) (R := R) w9 nok okl okh ll lh (extN_same (Same.refl _)) w9.tabs stN fun r1 its1 H10 x10 t10 e10 al10 => ?_⟩
          have en10 := x10 _ _ en9 notbl_l
          have aln10 : All2 (PrS H10) nits (sel ls wN) := aln9.imp fun _ _ ⟨b, e, z⟩ => ⟨b, e, x10 _ _ z notbl⟩
          refine ⟨_, rfl, ?_⟩
          dsimp only [tNil]
          refine sortE en10 aln10 fun p2 its2 H11 s11 e11 al11 => ?_
          refine ⟨p2, its2, rfl, .inl ⟨SqL.of e11, fun r3 hr3 => ?_⟩⟩
          have s12 := same_new hr3 (.tup its2)
          refine ⟨eD (srtE (sel ls wN)), eD (srtE (sel ls wN)), eD_dp ((s11.trans s12) _ _ e10) (al10.imp fun _ _ r => PrS.same r (s11.trans s12)), eD_dp upd_same (al11.imp fun _ _ r => PrS.same r s12), eD_sh nml, eD_sh nml, _, rfl, ?_⟩
          rw [sh_refl (eD_sh nml)]
          exact iteF ⟨rfl, fun b o e n => (s11.trans s12) _ _ (x10 _ _ e n), tabs_same t10 (s11.trans s12)⟩
        · rintro σ H10 ⟨rfl, x10, t10⟩
          refine ⟨_, rfl, _, rfl, ?_⟩
          dsimp only [tNil]
          refine sure_yes (C := C) (R := R) w9 nok okl okh ll lh x10 t10 stN fun r1 its1 H11 x11 t11 e11 al11 => ?_
          have ea11 := x11 _ _ (x10 _ _ eav9 notbl_l) notbl_l
          have ala11 : All2 (PrS H11) aits (sel ls wA) := ala9.imp fun _ _ ⟨b, e, z⟩ => ⟨b, e, x11 _ _ (x10 _ _ z notbl) notbl⟩
          rw [hE] at al11
          refine ⟨_, rfl, ?_⟩
          dsimp only [tNil]
          refine sortE ea11 ala11 fun p2 its2 H12 s12 e12 al12 => ?_
          refine ⟨p2, its2, rfl, .inl ⟨SqL.of e12, fun r3 hr3 => ?_⟩⟩
          have s13 := same_new hr3 (.tup its2)
          refine ⟨eD (srtE (sel ls wA)), eD (srtE (sel ls wA)), eD_dp ((s12.trans s13) _ _ e11) (al11.imp fun _ _ r => PrS.same r (s12.trans s13)), eD_dp upd_same (al12.imp fun _ _ r => PrS.same r s13), eD_sh nml, eD_sh nml, ?_⟩
          rw [sh_refl (eD_sh nml)]
          exact q5 _ (fun b o e n => (s12.trans s13) _ _ (x11 _ _ (x10 _ _ (x59 _ _ e n) n) n)) (tabs_same t11 (s12.trans s13))
end
end K6

/-! repr of a bool -/
namespace Rb
open PySem PySem.Spec PyProof.Rows L2 Hb Ty
def rReprB (t f : Str) : List V → Hp → VK → Prop := fun xs H Q => ∃ b : Bool, xs = [.bl b] ∧ Q (.str (if b then t else f)) H
theorem cr_reprB {X : Cx} : CallR X (.builtin "repr") (rReprB (Str.ofString "True") (Str.ofString "False")) := by
  intro pins s σ H xs us Q I r h
  obtain ⟨b, rfl, q⟩ := h
  obtain ⟨u, rfl, ru⟩ := vals1 r
  obtain rfl : u = Value.bool b := ru
  cases b with
  | true => exact P.repr_of_bool ⟨.str _, H, I.tok _, ⟨_, rfl⟩, q⟩
  | false => exact P.repr_of_bool ⟨.str _, H, I.tok _, ⟨_, rfl⟩, q⟩
end Rb

namespace K6
open PySem PySem.Spec PyProof.Rows L2 Hb St Sq Ow En Zp RZ Rd Xb Da Lg LamX Ty Lc
def KpX (p l : Addr) (H H' : Hp) : Prop := ∀ b o, H b = some o → b ≠ p → b ≠ l → (∀ ps, o ≠ .tbl ps) → H' b = some o
theorem KpX.trans {p l : Addr} {H H1 H2 : Hp} (a : KpX p l H H1) (b : KpX p l H1 H2) : KpX p l H H2 := fun c o e n m t => b c o (a c o e n m t) n m t
theorem KpX.two {p l : Addr} {H H' : Hp} (k : Kept2 p l H H') : KpX p l H H' := fun b o e n m _ => k b o e n m
theorem KpX.same {p l : Addr} {H H' : Hp} (k : Same H H') : KpX p l H H' := fun b o e _ _ _ => k b o e
theorem KpX.ext {p l : Addr} {H H' : Hp} (k : ExtN H H') : KpX p l H H' := fun b o e _ _ t => k b o e t
/-- v holds d, wherever all but the box and the tables is as in H -/
def Nd (K : PySem.W.Frag) (p l : Addr) (H : Hp) (v : V) (d : PyData) : Prop := ∀ H', KpX p l H H' → Dp K H' v d
section
variable {K : PySem.W.Frag} {p l : Addr} {H H' : Hp} {v : V} {d : PyData}
theorem Nd.on (n : Nd K p l H v d) (k : KpX p l H H') : Nd K p l H' v d := fun H2 k2 => n H2 (k.trans k2)
theorem dpa_of {H : Hp} : ∀ {vs : List V} {ds : List PyData}, All2 (Dp K H) vs ds → DpAll K H vs ds
  | _, _, .nil => .nil
  | _, _, .cons h t => .cons h (dpa_of t)
theorem Nd.tup {a : Addr} {xs : List V} {ds : List PyData} (e : H a = some (.tup xs)) (hd : DealAt H p l) (al : All2 (Nd K p l H) xs ds) : Nd K p l H (.ref a) (.tuple ds) := fun H' k =>
  .tup (SqT.of (k _ _ e (hd.ne_tup e).1 (hd.ne_tup e).2 notbl)) (dpa_of (al.imp fun _ _ n => n H' k))
theorem Nd.lst {a : Addr} {xs : List V} {ds : List PyData} (e : H a = some (.lst xs)) (n1 : a ≠ p) (n2 : a ≠ l) (al : All2 (Nd K p l H) xs ds) : Nd K p l H (.ref a) (.list ds) := fun H' k =>
  .lst (SqL.of (k _ _ e n1 n2 notbl_l)) (dpa_of (al.imp fun _ _ n => n H' k))
theorem nd_str (x : Str) : Nd K p l H (.str x) (.str x) := fun _ _ => .str x
theorem nd_int (i : Int) : Nd K p l H (.int i) (.int i) := fun _ _ => .int i
theorem nd_non : Nd K p l H .non .none := fun _ _ => .non
theorem nd_strs : ∀ lot : List Str, All2 (Nd K p l H) (lot.map V.str) (lot.map .str)
  | [] => .nil
  | x :: r => .cons (nd_str x) (nd_strs r)
theorem nd_lot {lot : List Str} (hd : DealAt H p l) (h : LotH H v lot) : Nd K p l H v (.tuple (lot.map .str)) := by
  obtain ⟨b, rfl, e⟩ := h
  exact .tup e hd (nd_strs lot)
end
theorem nd_lots {K : PySem.W.Frag} {p l : Addr} {H : Hp} (hd : DealAt H p l) : ∀ {its : List V} {ls : List (List Str)}, All2 (LotH H) its ls → All2 (Nd K p l H) its (ls.map fun l => .tuple (l.map .str))
  | _, _, .nil => .nil
  | _, _, .cons h t => .cons (nd_lot hd h) (nd_lots hd t)
/-! ### _law_alike_right -/
abbrev s__law_alike_right : Stmt := top 44
theorem sc__law_alike_right : FnScope ["heap", "lots", "events", "row", "lot", "one", "other", "near", "is_alike", "bad", "first", "tale", "event"] ["heap", "lots"] (defScope s__law_alike_right) := ⟨rfl, rfl, rfl, by decide +kernel, rfl, by decide +kernel, by decide +kernel⟩
abbrev qAL : Str := (envOfC "_law_alike_right" (defScope s__law_alike_right) 0 0 .none).qual ++ "<lambda>"
section
variable {P : Program} {w : World} {K : PySem.W.Frag} {mg : Str → Option Value} {base : Heap}
/-- all events, lot by lot -/
def evAll (ls : List LotT) : List (Str × Nat) := (evF ls).flatten
theorem PrS.kp {p l : Addr} {H H' : Hp} {v : V} {e : Str × Nat} (h : PrS H v e) (hd : DealAt H p l) (k : KpX p l H H') : PrS H' v e := let ⟨b, ev, t⟩ := h; ⟨b, ev, k _ _ t (hd.ne_tup t).1 (hd.ne_tup t).2 notbl⟩
theorem LotH.kp {p l : Addr} {H H' : Hp} {v : V} {e : LotT} (h : LotH H v e) (hd : DealAt H p l) (k : KpX p l H H') : LotH H' v e := let ⟨b, ev, t⟩ := h; ⟨b, ev, k _ _ t (hd.ne_tup t).1 (hd.ne_tup t).2 notbl⟩
theorem RowL.kp {p l E : Addr} {H H' : Hp} {v : V} {r : List (Str × Nat)} (h : RowL E H v r) (hd : DealAt H p l) (ne : r ≠ []) (k : KpX p l H H') : RowL E H' v r := by
  obtain ⟨b, rits, ev, nE, e, al⟩ := h
  have nn : b ≠ p ∧ b ≠ l := by
    obtain ⟨ns, c, h1, h2, _⟩ := hd
    cases al with
    | nil => exact absurd rfl ne
    | cons r t =>
      obtain ⟨eb, e1, e2⟩ := r
      refine ⟨fun z => ?_, fun z => ?_⟩
      · rw [z, h1] at e
        have e := HO.lst.inj (Option.some.inj e)
        injection e with e3 _
        rw [e1] at e3
        injection e3 with e3
        rw [← e3, h2] at e2
        cases e2
      · rw [z, h2] at e
        have e := HO.lst.inj (Option.some.inj e)
        cases ns with
        | nil => cases e
        | cons n ns =>
          injection e with e3 _
          rw [e1] at e3
          cases e3
  exact ⟨b, rits, ev, nE, k _ _ e nn.1 nn.2 notbl_l, al.imp fun _ _ r => PrS.kp r hd k⟩
/-- what stands while it is asked what sounds alike -/
structure AW (T : List (Addr × Str)) (p l a tt vp rp : Addr) (its rows rits : List V) (ls : List LotT) (H : Hp) : Prop where
  hd : DealAt H p l
  tabs : Tabs T H
  ea : H a = some (.lst its)
  al : All2 (LotH H) its ls
  et : H tt = some (.tup its)
  ev : H vp = some (.lst rows)
  alv : All2 (RowL vp H) rows (evF ls)
  er : H rp = some (.lst rits)
  alr : All2 (PrS H) rits (evAll ls)
  na : a ≠ p ∧ a ≠ l
  nv : vp ≠ p ∧ vp ≠ l
  nr : rp ≠ p ∧ rp ≠ l
  lne : ∀ x ∈ ls, x ≠ []
theorem evF_ne {ls : List LotT} (h : ∀ x ∈ ls, x ≠ []) : ∀ r ∈ evF ls, r ≠ [] := by
  intro r hr
  unfold evF at hr
  obtain ⟨n, hn, rfl⟩ := List.mem_map.mp hr
  have hn := List.mem_range.mp hn
  unfold evR
  rw [List.getD_eq_getElem?_getD, List.getElem?_eq_getElem hn]
  intro z
  exact h _ (List.getElem_mem hn) (List.map_eq_nil_iff.mp z)
theorem all2_impM {α β : Type} {R S : α → β → Prop} : ∀ {as : List α} {bs : List β}, All2 R as bs → (∀ a b, b ∈ bs → R a b → S a b) → All2 S as bs
  | _, _, .nil, _ => .nil
  | _, _, .cons h t, f => .cons (f _ _ (.head _) h) (all2_impM t fun a b m r => f a b (.tail _ m) r)
theorem AW.kp {T : List (Addr × Str)} {p l a tt vp rp : Addr} {its rows rits : List V} {ls : List LotT} {H H' : Hp} (w : AW T p l a tt vp rp its rows rits ls H) (k : KpX p l H H') (hd' : DealAt H' p l) (t' : Tabs T H') : AW T p l a tt vp rp its rows rits ls H' :=
  ⟨hd', t', k _ _ w.ea w.na.1 w.na.2 notbl_l, w.al.imp fun _ _ r => LotH.kp r w.hd k, k _ _ w.et (w.hd.ne_tup w.et).1 (w.hd.ne_tup w.et).2 notbl, k _ _ w.ev w.nv.1 w.nv.2 notbl_l,
    all2_impM w.alv fun _ _ m r => RowL.kp r w.hd (evF_ne w.lne _ m) k, k _ _ w.er w.nr.1 w.nr.2 notbl_l, w.alr.imp fun _ _ r => PrS.kp r w.hd k, w.na, w.nv, w.nr, w.lne⟩
theorem AW.same {T : List (Addr × Str)} {p l a tt vp rp : Addr} {its rows rits : List V} {ls : List LotT} {H H' : Hp} (w : AW T p l a tt vp rp its rows rits ls H) (s : Same H H') : AW T p l a tt vp rp its rows rits ls H' := w.kp (.same s) (w.hd.same s) (tabs_same w.tabs s)
theorem flat_le {α : Type} {k : Nat} : ∀ {ls : List (List α)}, (∀ l ∈ ls, l.length ≤ k) → ls.flatten.length ≤ ls.length * k
  | [], _ => Nat.zero_le _
  | l :: ls, h => by
    have h1 := flat_le (ls := ls) fun x hx => h x (.tail _ hx)
    have h2 := h l (.head _)
    rw [List.flatten_cons, List.length_append, List.length_cons, Nat.succ_mul]; omega
theorem ev_le {ls : List LotT} (h : ∀ l ∈ ls, l.length ≤ 4) : ∀ r ∈ evF ls, r.length ≤ 4 := by
  intro r hr
  unfold evF at hr
  obtain ⟨n, hn, rfl⟩ := List.mem_map.mp hr
  have hn := List.mem_range.mp hn
  unfold evR
  rw [List.length_map, List.getD_eq_getElem?_getD, List.getElem?_eq_getElem hn]
  exact h _ (List.getElem_mem hn)
/-- an event of the tale -/
def EvOk (ls : List LotT) (p : Str × Nat) (n : Nat) : Prop := n < ls.length ∧ p.1 ∈ ls.getD n [] ∧ p = (p.1, turnN ls n p.1)
theorem ev_ok {ls : List LotT} {p : Str × Nat} (h : p ∈ evAll ls) : ∃ n, EvOk ls p n := by
  unfold evAll evF at h
  obtain ⟨r, hr, hp⟩ := List.mem_flatten.mp h
  obtain ⟨n, hn, rfl⟩ := List.mem_map.mp hr
  unfold evR at hp
  obtain ⟨x, hx, rfl⟩ := List.mem_map.mp hp
  exact ⟨n, List.mem_range.mp hn, hx, rfl⟩
theorem ev_num {nms : List Str} {ls : List LotT} {p : Str × Nat} {n : Nat} (okl : ∀ l ∈ ls, LotOk nms l) (nok : NsOk nms) (h : EvOk ls p n) : numF ls (evPD p) = some n := by
  obtain ⟨hn, hx, hp⟩ := h
  have hm : ls.getD n [] ∈ ls := by
    rw [List.getD_eq_getElem?_getD, List.getElem?_eq_getElem hn]
    exact List.getElem_mem hn
  have nmp : IsNm p.1 := nok.nm _ ((okl _ hm).2.2 _ hx)
  unfold numF
  have e1 : evD (evPD p) = some (p.1, ((p.2 : Nat) : Int)) := by
    have := turn_pos hx
    have h2 : p.2 = turnN ls n p.1 := congrArg Prod.snd hp
    have h3 : (1 : Int) ≤ ((p.2 : Nat) : Int) := by omega
    show evD (.tuple [.str p.1, .int (p.2 : Nat)]) = _
    rw [evD_pair, if_pos ⟨nm_B nmp, h3⟩]
  rw [e1]
  show evL ls p.1 ((p.2 : Nat) : Int) 0 = some n
  have := evL_at (ls := ls) (n := n) (x := p.1) 0 (fun l hl => asc_nodupS (okl l hl).2.1) hx
  rw [Nat.zero_add] at this
  rw [show p.2 = turnN ls n p.1 from congrArg Prod.snd hp]
  exact this
/-- a list of lots as data -/
def lD (ms : List LotT) : PyData := .list (ms.map fun l => PyData.tuple (l.map .str))
theorem lD_dp {K : PySem.W.Frag} {H : Hp} {r : Addr} {its : List V} {ms : List LotT} (e : H r = some (.lst its)) (al : All2 (LotH H) its ms) : Dp K H (.ref r) (lD ms) := .lst (SqL.of e) (dp_all (fun _ _ h => h.dp) al)
theorem lD_sh {ms : List LotT} (h : ∀ l ∈ ms, ∀ x ∈ l, IsNm x) : SeqAt.shaped (lD ms) = true := (sh_lst (n := 1) fun l hl => sh_lot (h l hl)).ok (by decide)
theorem lD_eq (ms ns : List LotT) : PyData.eqv (lD ms) (lD ns) = decide (ms = ns) := eqvAll_map (f := fun l : LotT => PyData.tuple (l.map .str)) (fun a b => eqvAll_map eqv_str a b) ms ns
theorem no_first1 {d : PyData} (h : taleD d = true) : firstNo [d] = none := by
  unfold firstNo
  rw [List.findIdx?_eq_none_iff]
  intro x hx
  rw [List.mem_singleton.mp hx, h]; rfl
theorem tabs_two {T : List (Addr × Str)} {p l : Addr} {H H' : Hp} (t : Tabs T H) (hd : DealAt H p l) (k : Kept2 p l H H') : Tabs T H' := fun y hy => by
  obtain ⟨ps, h1, h2, h3⟩ := t y hy
  obtain ⟨ns, c, e1, e2, _⟩ := hd
  refine ⟨ps, k _ _ h1 (fun z => ?_) (fun z => ?_), h2, fun pos cv hc => ?_⟩
  · rw [z, e1] at h1; cases h1
  · rw [z, e2] at h1; cases h1
  · obtain ⟨cc, ev, e3⟩ := h3 pos cv hc
    refine ⟨cc, ev, k _ _ e3 (fun z => ?_) (fun z => ?_)⟩
    · rw [z, e1] at e3; cases e3
    · rw [z, e2] at e3; cases e3
theorem AW.two {T : List (Addr × Str)} {p l a tt vp rp : Addr} {its rows rits : List V} {ls : List LotT} {H H' : Hp} (w : AW T p l a tt vp rp its rows rits ls H) (k : Kept2 p l H H') (hd' : DealAt H' p l) : AW T p l a tt vp rp its rows rits ls H' :=
  w.kp (.two k) hd' (tabs_two w.tabs w.hd k)
theorem deal_ext {H H' : Hp} {p l : Addr} (d : DealAt H p l) (x : ExtN H H') : DealAt H' p l := let ⟨ns, b, h1, h2, r⟩ := d; ⟨ns, b, x _ _ h1 notbl_l, x _ _ h2 notbl_l, r⟩
/-- what is no event is told -/
theorem al_told {K : PySem.W.Frag} {T : List (Addr × Str)} {p l a tt vp rp C R : Addr} {its rows rits : List V} {ls : List LotT} {nms : List Str} {H H' : Hp} {v1 v2 : V} {d1 d2 : PyData} {k : Int} {Q : VK} (w : AW T p l a tt vp rp its rows rits ls H) (nok : NsOk nms) (okl : ∀ l ∈ ls, LotOk nms l) (ll : ls.length ≤ 7) (x : ExtN H H')
    (h1 : Dp K H' v1 d1) (s1 : ShP d1) (h2 : Dp K H' v2 d2) (s2 : ShP d2) (hk : (k = 1 ∧ numF ls d1 = none) ∨ (k = 2 ∧ numF ls d1 ≠ none ∧ numF ls d2 = none)) (q : ∀ t H'', Same H' H'' → H'' t = some (.lst [.str (Str.ofString "heard"), .int k]) → Q (.ref t) H'') :
    spAlike K C [.ref tt, v1, v2] H' Q (eTold K C R Q) := by
  have no := no_first1 (tale_D nok okl)
  have et := x _ _ w.et notbl
  have al := w.al.imp fun _ _ h => lotH_ext h x
  refine ⟨.ref tt, v1, v2, tD ls, d1, d2, ls, rfl, ⟨tale_dp et al, tale_sm nok okl (by omega), fun _ => ⟨tt, rfl, its, et, al.imp fun _ _ r => lotH_S r⟩⟩, by omega, fun l hl => by have := lot_len nok (okl l hl); omega, fun l hl x hx => nok.nm x ((okl l hl).2.2 x hx), h1, fun _ => s1, h2, fun _ => s2, fun k hk => (by rw [no] at hk; cases hk), fun _ z dd H2 sd ed => ?_, fun _ z1 z2 dd H2 sd ed => ?_, fun x1 n1 x2 n2 i1 i2 _ _ z1 _ z2 => ?_⟩
  · rcases hk with ⟨rfl, _⟩ | ⟨_, hn, _⟩
    · exact ⟨dd, _, rfl, ed, .inl ⟨rfl, fun t H3 s3 e3 => q t H3 (sd.trans s3) e3⟩⟩
    · exact absurd z hn
  · rcases hk with ⟨_, hn⟩ | ⟨rfl, _, _⟩
    · exact absurd hn z1
    · exact ⟨dd, _, rfl, ed, .inl ⟨rfl, fun t H3 s3 e3 => q t H3 (sd.trans s3) e3⟩⟩
  · rcases hk with ⟨_, hn⟩ | ⟨_, _, hn⟩
    · rw [hn] at z1; cases z1
    · rw [hn] at z2; cases z2
def spAlikeR (T : List (Addr × Str)) : Sp := fun vs H Q _ => ∃ (p l a : Addr) (its : List V) (ls : List LotT) (nms : List Str), vs = [.ref p, .ref a] ∧ DealAt H p l ∧ H a = some (.lst its) ∧ All2 (LotH H) its ls ∧ NsOk nms ∧ (∀ x ∈ nms, x ≠ "none") ∧ (∀ l ∈ ls, LotOk nms l) ∧ ls.length ≤ 7 ∧ Tabs T H ∧ (a ≠ p ∧ a ≠ l) ∧
  ∀ H', KpX p l H H' → DealAt H' p l → Tabs T H' → Q (.bl true) H'
theorem ok_aliker {f c Pt C R fC fR g : Addr} {T : List (Addr × Str)} {fdg : FuncData} {oc : Value} {od an : Option Addr} {osl : Array (Option Value)} {kV doc pm ct : Value}
    (lk : K.lookup f = some ⟨oc, od, .func (PySem.W.fnOf "_law_alike_right" "_law_alike_right" (defArgs s__law_alike_right) (defBody s__law_alike_right) (defScope s__law_alike_right) .none kV doc pm an (.ref c) ct), osl⟩) (cd : PySem.W.codeIn K (.ref c) "_law_alike_right" = true) (TB : TabB base mg c Pt)
    (inT : (Pt, qAL) ∈ T) (one : ∀ y ∈ T, y.1 = Pt → y.2 = qAL)
    (Fg : Fun K "_law_told" "_law_told" s__law_told g fdg) (bg0 : Binds K fdg ["work"] []) (mtold : mg "_law_told" = some (.ref g)) (TH : ErrC K mg "InvalidHeard" C fC) (TR : ErrC K mg "Refused" R fR) (eRC : PySem.W.exmOne K (.ref R) (.ref C) = some false)
    (C__law_draw : Cl P w K mg base "_law_draw" ["heap", "many"] [] 1 spDraw) (C__law_events : Cl P w K mg base "_law_events" ["lots"] [] 1 (spLEvs K)) (C__law_pick : Cl P w K mg base "_law_pick" ["heap", "some"] [] 2 (spPick K)) (C__law_without : Cl P w K mg base "_law_without" ["lots", "events", "event"] [] 1 (spLWo K)) (C_alike_silences : Cx_ P w K mg base "alike_silences" ["lots", "one", "other"] 5 (spAlike K C))
    (K_alike_silences : CkX P w K mg base "alike_silences" ["lots", "one", "other"] ["other", "one", "lots"] (fun _ zs => zs.reverse) 5 (spAlike K C)) (n_list : mg "list" = none) (n_repr : mg "repr" = none) (n_tuple : mg "tuple" = none) :
    FnOk P w K mg base CX0 12 f (PySem.W.fnOf "_law_alike_right" "_law_alike_right" (defArgs s__law_alike_right) (defBody s__law_alike_right) (defScope s__law_alike_right) .none kV doc pm an (.ref c) ct) ["heap", "lots"] (spAlikeR T) := by
  obtain ⟨⟨ocg, odg, kVg, docg, pmg, ang, cdvg, ctg, oslg, rfl, lkg, cdg'⟩, kpg⟩ := Fg
  have bg := bg0
  refine okC lk cd sc__law_alike_right (fun vs H Q E h => ?_) (fun A outer s H vs Q E hr h => ?_)
  · obtain ⟨_, _, _, _, _, _, rfl, _⟩ := h
    rfl
  · obtain ⟨p, l, a, its, ls, nms, rfl, hd, ea, al, nok, nno, okl, ll, tabs, na, q⟩ := h
    refine ⟨_, (pss_cons (ps_asg (pe_tup (pa_cons (pe_callTy call_tuple_of (by rfl) n_tuple (by decide +kernel) (pa_cons (pv 1) pa_nil)) (pa_cons (pe_use C__law_events (hr.mono (by decide)) rfl (pa_cons (pv 1) pa_nil)) pa_nil))) (pg_tup rfl (pgs_cons (pg_name (i := 11) sc__law_alike_right.nd rfl (Or.inr rfl)) (pgs_cons (pg_name (i := 2) sc__law_alike_right.nd rfl (Or.inl rfl)) pgs_nil))))
    (pss_cons (ps_set (i := 3) sc__law_alike_right.nd rfl (Or.inl rfl) (pe_lst pa_nil))
    (Evl.pss_cut (ps_for PassesOwn.never rfl (pi_seq (pv 2)) (pg_name (i := 4) sc__law_alike_right.nd rfl (Or.inl rfl))
      (pss_one (ps_set (i := 3) sc__law_alike_right.nd rfl (Or.inl rfl) (pe_op op_cat (pv 3) (pv 4)))))
    (Evl.pss_cut (ps_if (pt_cmpR (op_neD hr.units) (pv 3) (pe_lst pa_nil) (nomark _)) (pss_cons (ps_asg (pe_tup (pa_cons (pe_use C__law_pick (hr.mono (by decide)) rfl (pa_cons (pv 0) (pa_cons (pv 3) pa_nil))) (pa_cons (pe_use C__law_pick (hr.mono (by decide)) rfl (pa_cons (pv 0) (pa_cons (pv 3) pa_nil))) pa_nil))) (pg_tup rfl (pgs_cons (pg_name (i := 5) sc__law_alike_right.nd rfl (Or.inr rfl)) (pgs_cons (pg_name (i := 6) sc__law_alike_right.nd rfl (Or.inl rfl)) pgs_nil))))
    (Evl.pss_cut (ps_setLc (i := 7) (own := [("event", 12)]) (g := gName 12) (by rfl) sc__law_alike_right.nd rfl rfl (sw_true rfl rfl rfl (by decide +kernel)) (pi_seq (pv 3)) (blkOk_by (N := ["heap", "lots", "events", "row", "lot", "one", "other", "near", "is_alike", "bad", "first", "tale", "event"]) (sc := defScope s__law_alike_right) (by decide +kernel)) (fun _ _ _ _ _ => pg_name (i := 12) sc__law_alike_right.nd rfl (Or.inl rfl)) (fun _ _ _ _ _ => pts_one (pt_cmpR op_eq (pe_ix (r := rIxT K) ix_tup (pv 12) pe_int (fun _ _ => rfl)) (pe_ix (r := rIxT K) ix_tup (pv 5) pe_int (fun _ _ => rfl)) (nomark _))) (fun _ _ _ _ _ => pv 12))
    (Evl.pss_cut (ps_set (i := 6) sc__law_alike_right.nd rfl (Or.inl rfl) (pe_ifExp (pt_cmpR op_eq (pe_use C__law_draw (hr.mono (by decide)) rfl (pa_cons (pv 0) (pa_cons pe_int pa_nil))) pe_int (nomark _)) (pe_use C__law_pick (hr.mono (by decide)) rfl (pa_cons (pv 0) (pa_cons (pv 7) pa_nil))) (pv 6)))
    (pss_cons (ps_set (i := 8) sc__law_alike_right.nd rfl (Or.inl rfl) (pe_cmpR (op_eqD hr.units) (pe_use C__law_without (hr.mono (by decide)) rfl (pa_cons (pv 1) (pa_cons (pv 2) (pa_cons (pv 5) pa_nil)))) (pe_use C__law_without (hr.mono (by decide)) rfl (pa_cons (pv 1) (pa_cons (pv 2) (pa_cons (pv 6) pa_nil)))) (nomark _)))
    (pss_one (ps_if (pt_cmpR op_ne (pe_callB Rb.cr_reprB (by rfl) n_repr (by decide +kernel) (pa_cons (pe_useKX K_alike_silences (hr.mono (by decide)) (passes_call L2.takes0 fun _ _ _ _ h => h) rfl (pk_cons (pv 6) (pk_cons (pv 5) (pk_cons (pv 11) pk_nil)))) pa_nil)) (pe_callB Rb.cr_reprB (by rfl) n_repr (by decide +kernel) (pa_cons (pv 8) pa_nil)) (nomark _)) (pss_one (ps_ret pe_bl)) pss_nil)))))) pss_nil)
    (Evl.pss_cut (ps_set (i := 10) sc__law_alike_right.nd rfl (Or.inr rfl) (pe_ifExp (pt_cmpR (op_neD hr.units) (pv 3) (pe_lst pa_nil) (nomark _)) (pe_ix ix_list (pv 3) pe_int (fun _ _ => rfl)) (pe_tup (pa_cons pe_str (pa_cons pe_int pa_nil)))))
    (pss_cons (ps_set (i := 9) sc__law_alike_right.nd rfl (Or.inr rfl) (pe_use C__law_pick (hr.mono (by decide)) rfl (pa_cons (pv 0) (pa_cons (pe_lst (pa_cons (pe_tup (pa_cons pe_str (pa_cons pe_int pa_nil))) (pa_cons (pe_tup (pa_cons (pe_ix ix_tup (pv 10) pe_int (fun _ _ => rfl)) (pa_cons pe_int pa_nil))) (pa_cons (pe_tup (pa_cons (pe_ix ix_tup (pv 10) pe_int (fun _ _ => rfl)) (pa_cons pe_int pa_nil))) (pa_cons pe_non (pa_cons (pe_ix ix_tup (pv 10) pe_int (fun _ _ => rfl)) (pa_cons (pe_callTy call_list_of (by rfl) n_list (by decide +kernel) (pa_cons (pv 10) pa_nil)) (pa_cons (pe_tup (pa_cons (pe_ix ix_tup (pv 10) pe_int (fun _ _ => rfl)) (pa_cons pe_bl pa_nil))) (pa_cons (pe_tup (pa_cons pe_int (pa_cons pe_int pa_nil))) pa_nil))))))))) pa_nil))))
    (Evl.pss_cut (ps_if (pt_cmpR (op_eqD hr.units) (pv 3) (pe_lst pa_nil) (nomark _)) (pss_one (ps_ret (pe_cmpR (op_eqD hr.units) (pe_lamcall (T := T) (t := fun E => tCallS (spAlike K C) (fun _ => E) (tCons (tVar 11) (tCons (tVar 9) (tCons (tVar 10) tNil)))) (TT := TTold2 K C R) (k := 5) (a := "work") (Ng := ["work", "wrong"]) rfl mtold kpg lkg cdg' bg sc__law_told rfl (.inl rfl) (told2 TH TR eRC) TB rfl inT one (hr.mono (by decide)) (lamS_by rfl) rfl (fun _ _ _ _ _ => rfl) (fun A outer s H E f c' hr2 => pe_useX C_alike_silences hr2 (fun σ => passAt (takes_of rfl rfl rfl rfl) σ) rfl (pa_cons (pv 11) (pa_cons (pv 9) (pa_cons (pv 10) pa_nil))))) (pe_lst (pa_cons pe_str (pa_cons pe_int pa_nil))) (nomark _)))) pss_nil)
    (Evl.pss_cut (ps_if (pt_cmpR (op_neD hr.units) (pe_lamcall (T := T) (t := fun E => tCallS (spAlike K C) (fun _ => E) (tCons (tVar 11) (tCons (tVar 9) (tCons (tC .non) tNil)))) (TT := TTold2 K C R) (k := 5) (a := "work") (Ng := ["work", "wrong"]) rfl mtold kpg lkg cdg' bg sc__law_told rfl (.inl rfl) (told2 TH TR eRC) TB rfl inT one (hr.mono (by decide)) (lamS_by rfl) rfl (fun _ _ _ _ _ => rfl) (fun A outer s H E f c' hr2 => pe_useX C_alike_silences hr2 (fun σ => passAt (takes_of rfl rfl rfl rfl) σ) rfl (pa_cons (pv 11) (pa_cons (pv 9) (pa_cons pe_non pa_nil))))) (pe_lst (pa_cons pe_str (pa_cons pe_int pa_nil))) (nomark _)) (pss_one (ps_ret pe_bl)) pss_nil)
    (pss_one (ps_ret (pe_cmpR (op_eqD hr.units) (pe_lamcall (T := T) (t := fun E => tCallS (spAlike K C) (fun _ => E) (tCons (tVar 11) (tCons (tVar 10) (tCons (tVar 9) tNil)))) (TT := TTold2 K C R) (k := 5) (a := "work") (Ng := ["work", "wrong"]) rfl mtold kpg lkg cdg' bg sc__law_told rfl (.inl rfl) (told2 TH TR eRC) TB rfl inT one (hr.mono (by decide)) (lamS_by rfl) rfl (fun _ _ _ _ _ => rfl) (fun A outer s H E f c' hr2 => pe_useX C_alike_silences hr2 (fun σ => passAt (takes_of rfl rfl rfl rfl) σ) rfl (pa_cons (pv 11) (pa_cons (pv 10) (pa_cons (pv 9) pa_nil))))) (pe_lst (pa_cons pe_str (pa_cons pe_int pa_nil))) (nomark _)))))))))))), ?_⟩
    have lens : ∀ l ∈ ls, l.length ≤ 1000 ∧ ∀ x ∈ l, IsNm x := fun h hh => ⟨by have := lot_len nok (okl h hh); omega, fun x hx => nok.nm x ((okl h hh).2.2 x hx)⟩
    have lne : ∀ x ∈ ls, x ≠ [] := fun x hx => (okl x hx).1
    refine ⟨_, rfl, a, _, rfl, .inl ⟨SqL.of ea, fun tt ht => ?_⟩⟩
    have s1 := same_new ht (.tup its)
    have et1 : upd H tt (.tup its) tt = some (.tup its) := upd_same
    generalize upd H tt (.tup its) = H1 at s1 et1 ⊢
    refine ⟨_, rfl, a, its, ls, rfl, s1 _ _ ea, al.imp fun _ _ r => r.on (.same s1), by omega, fun l hl => (lens l hl).1, fun vp rows H2 nvp s2 e2 al2 => ?_⟩
    have s02 := s1.trans s2
    have nv : vp ≠ p ∧ vp ≠ l := (hd.same s1).ne_none nvp
    refine ⟨by show 2 ≤ sizeLine; decide, fun t3 h3 => ⟨t3, _, rfl, SqT.of upd_same, rfl, _, _, rfl, _, _, rfl, rfl, ?_⟩⟩
    have s3 := same_new h3 (.tup [V.ref tt, V.ref vp])
    have s03 := s02.trans s3
    have et3 := (s2.trans s3) _ _ et1
    have e3 := s3 _ _ e2
    have al3 := al2.imp fun _ _ r => RowL.same r s3
    generalize upd H2 t3 (.tup [V.ref tt, V.ref vp]) = H3 at s3 s03 et3 e3 al3 ⊢
    refine ⟨by show 0 ≤ sizeLine; decide, fun r0 kr0 => ?_⟩
    have s4 := same_new kr0 (.lst [])
    have er4 : upd H3 r0 (.lst []) r0 = some (.lst []) := upd_same
    have s04 := s03.trans s4
    have nr0 := (hd.same s03).ne_none kr0
    generalize upd H3 r0 (.lst []) = H4 at s4 er4 s04 ⊢
    refine ⟨fun σ H' => ∃ rp rits o4, σ = [some (.ref p), some (.ref a), some (.ref vp), some (.ref rp), o4, none, none, none, none, none, none, some (.ref tt), none] ∧ KpX p l H H' ∧ AW T p l a tt vp rp its rows rits ls H', ?_, ?_⟩
    · refine ⟨_, rfl, vp, rows, rfl, SqX.lst (s4 _ _ e3), fun J S W z0 => ?_⟩
      refine for_sq W (fun j σ H' => ∃ rp rits o4, σ = [some (.ref p), some (.ref a), some (.ref vp), some (.ref rp), o4, none, none, none, none, none, none, some (.ref tt), none] ∧ Same H4 H' ∧ H' rp = some (.lst rits) ∧ (rp ≠ p ∧ rp ≠ l) ∧ All2 (PrS H') rits ((evF ls).take j).flatten) ⟨r0, [], _, rfl, Same.refl _, er4, nr0, .nil⟩ (fun j σ H' pv => W.keep (fun o e => let ⟨_, _, _, _, s, _⟩ := pv; s _ _ e) z0) ?_ ?_
      · rintro j σ H5 y ey ⟨rp, rits, o4, rfl, s5, er5, nr5, alr5⟩
        obtain ⟨r, er, rb, rb2, rfl, _, erb, alrb⟩ := (al3.imp fun _ _ r => RowL.same r (s4.trans s5)).get ey
        refine ⟨_, rfl, _, rfl, rp, rb, rits, rb2, rfl, rfl, er5, erb, ?_, fun c kc => ?_⟩
        · have h1 := alr5.len
          have h2 := alrb.len
          have h3 := ev_le (ls := ls) (fun l hl => lot_len nok (okl l hl))
          have h4 := flat_le (k := 4) (ls := (evF ls).take j) fun r hr => h3 r (List.mem_of_mem_take hr)
          have h5 := h3 r (at_mem er)
          have h6 : ((evF ls).take j).length ≤ 7 := by
            rw [List.length_take]
            unfold evF
            rw [List.length_map, List.length_range]; omega
          have h7 : ((evF ls).take j).length * 4 ≤ 7 * 4 := Nat.mul_le_mul_right _ h6
          rw [sizeLine_eq]; omega
        · have s6 := same_new kc (.lst (rits ++ rb2))
          refine ⟨c, _, _, rfl, s5.trans s6, upd_same, ((hd.same s04).same s5).ne_none kc, ?_⟩
          rw [List.take_add_one, er, List.flatten_append]
          refine (alr5.imp fun _ _ r => PrS.same r s6).app ?_
          show All2 _ rb2 [r].flatten
          rw [List.flatten_singleton]
          exact alrb.imp fun _ _ r => PrS.same r s6
      · rintro σ H5 ⟨rp, rits, o4, rfl, s5, er5, nr5, alr5⟩
        rw [al3.len, List.take_length] at alr5
        have s05 := s04.trans s5
        refine ⟨rp, rits, _, rfl, .same s05, ?_⟩
        exact ⟨hd.same s05, tabs_same tabs s05, s05 _ _ ea, al.imp fun _ _ r => r.on (.same s05), (s4.trans s5) _ _ et3, (s4.trans s5) _ _ e3, al3.imp fun _ _ r => RowL.same r (s4.trans s5), er5, alr5, na, nv, nr5, lne⟩
    rintro σ H5 ⟨rp, rits, o4, rfl, k5, w5⟩
    have lev : (evAll ls).length ≤ 28 := by
      have h3 := ev_le (ls := ls) (fun l hl => lot_len nok (okl l hl))
      have h4 := flat_le (k := 4) (ls := evF ls) h3
      have h6 : (evF ls).length ≤ 7 := by
        unfold evF
        rw [List.length_map, List.length_range]; omega
      have h7 : (evF ls).length * 4 ≤ 7 * 4 := Nat.mul_le_mul_right _ h6
      exact Nat.le_trans h4 h7
    have lri : rits.length = (evAll ls).length := w5.alr.len
    have evs : ∀ v ∈ rits, ∃ e n, ∀ {H'}, AW T p l a tt vp rp its rows rits ls H' → PrS H' v e ∧ EvOk ls e n := fun v hv => by
      obtain ⟨i, hi⟩ := List.mem_iff_getElem?.mp hv
      obtain ⟨e, he, _⟩ := w5.alr.get hi
      obtain ⟨n, hn⟩ := ev_ok (at_mem he)
      refine ⟨e, n, fun {H'} w' => ⟨?_, hn⟩⟩
      obtain ⟨e2, he2, r2⟩ := w'.alr.get hi
      obtain rfl : e2 = e := Option.some.inj (he2.symm.trans he)
      exact r2
    have shr : ∀ es : List (Str × Nat), (∀ e ∈ es, IsNm e.1) → SeqAt.shaped (.list (es.map evPD)) = true := fun es h => (sh_lst (n := 1) fun e he => sh_evP (h e he)).ok (by decide)
    have nmE : ∀ e ∈ evAll ls, IsNm e.1 := fun e he => by
      obtain ⟨n, hn, hx, _⟩ := ev_ok he
      have hm : ls.getD n [] ∈ ls := by
        rw [List.getD_eq_getElem?_getD, List.getElem?_eq_getElem hn]
        exact List.getElem_mem hn
      exact nok.nm _ ((okl _ hm).2.2 _ hx)
    have rdp : ∀ {H'}, AW T p l a tt vp rp its rows rits ls H' → Dp K H' (.ref rp) (.list ((evAll ls).map evPD)) := fun {H'} w' => .lst (SqL.of w'.er) (dp_all (f := evPD) (fun _ _ r => r.dp) w'.alr)
    have req : PyData.eqv (.list ((evAll ls).map evPD)) (.list []) = decide (evAll ls = []) := eqvAll_map (f := evPD) eqv_evP (evAll ls) []
    let S3 : Option V → Option V → Option V → Option V → Option V → Option V → Option V → Option V → L2.St := fun o4 o5 o6 o7 o8 o9 o10 o12 => [some (.ref p), some (.ref a), some (.ref vp), some (.ref rp), o4, o5, o6, o7, o8, o9, o10, some (.ref tt), o12]
    let W5 : Hp → Prop := fun H' => KpX p l H H' ∧ AW T p l a tt vp rp its rows rits ls H'
    refine ⟨fun σ H' => (∃ o4 o5 o6 o7 o8 o9 o10 o12, σ = S3 o4 o5 o6 o7 o8 o9 o10 o12) ∧ W5 H', ?_, ?_⟩
    · refine ⟨_, rfl, by show 0 ≤ sizeLine; decide, fun t0 k0 => ?_⟩
      have s6 := same_new k0 (.lst [])
      have e6 : upd H5 t0 (.lst []) t0 = some (.lst []) := upd_same
      have w6 := w5.same s6
      have k6 : KpX p l H (upd H5 t0 (.lst [])) := k5.trans (.same s6)
      generalize upd H5 t0 (.lst []) = H6 at s6 e6 w6 k6 ⊢
      refine ⟨_, _, rdp w6, .lst (SqL.of e6) .nil, shr _ nmE, by decide, _, rfl, ?_⟩
      rw [req]
      by_cases c : evAll ls = []
      · rw [decide_eq_true c]
        exact iteF ⟨⟨_, _, _, _, _, _, _, _, rfl⟩, k6, w6⟩
      · rw [decide_eq_false c]
        have l1 : 1 ≤ rits.length := by
          rw [lri]
          cases h : evAll ls with
          | nil => exact absurd h c
          | cons _ _ => rw [List.length_cons]; omega
        refine iteT ?_
        refine ⟨_, rfl, _, rfl, p, l, rp, rits, rfl, w6.hd, fun H' k => SqX.lst (k _ _ w6.er w6.nr.1 w6.nr.2), ⟨l1, by omega⟩, fun v1 H7 hv1 k7 hd7 => ?_⟩
        have w7 := w6.two k7 hd7
        refine ⟨_, rfl, _, rfl, p, l, rp, rits, rfl, hd7, fun H' k => SqX.lst (k _ _ w7.er w7.nr.1 w7.nr.2), ⟨l1, by omega⟩, fun v2 H8 hv2 k8 hd8 => ?_⟩
        have w8 := w7.two k8 hd8
        obtain ⟨ev1, n1, f1⟩ := evs v1 hv1
        obtain ⟨ev2, n2, f2⟩ := evs v2 hv2
        refine ⟨by show 2 ≤ sizeLine; decide, fun t9 h9 => ⟨t9, _, rfl, SqT.of upd_same, rfl, _, _, rfl, _, _, rfl, rfl, ?_⟩⟩
        have s9 := same_new h9 (.tup [v1, v2])
        have w9 := w8.same s9
        have k9 : KpX p l H (upd H8 t9 (.tup [v1, v2])) := (k6.trans (.two k7)).trans ((KpX.two k8).trans (.same s9))
        generalize upd H8 t9 (.tup [v1, v2]) = H9 at s9 w9 k9 ⊢
        obtain ⟨p1, o1⟩ := f1 w9
        -- near
        refine ⟨fun σ H' => ∃ np nits o12, σ = S3 o4 (some v1) (some v2) (some (.ref np)) none none none o12 ∧ Same H9 H' ∧ H' np = some (.lst nits) ∧ (np ≠ p ∧ np ≠ l) ∧ All2 (PrS H') nits ((evAll ls).filter fun e => decide (e.1 = ev1.1)), ?_, ?_⟩
        · refine ⟨_, rfl, rp, rits, rfl, SqX.lst w9.er, fun J S W z0 D hD => ?_⟩
          refine lc_mf (ds := evAll ls) W (fun e => decide (e.1 = ev1.1)) (fun H v e => PrS H v e) z0 hD lri (fun i v e H' ev' ee s m => ?_) (fun H10 ys s10 e10 al10 => ?_)
          · obtain ⟨e', ee', hpe⟩ := w9.alr.get ev'
            obtain rfl : e' = e := Option.some.inj (ee'.symm.trans ee)
            obtain ⟨eb, rfl, heb⟩ := PrS.same hpe s
            obtain ⟨ob, rfl, hob⟩ := PrS.same p1 s
            have mono : ∀ (H H' : Hp) (y : V) (d : Str × Nat), Fix H H' → PrS H y d → PrS H' y d := fun _ _ _ _ f h => h.on (.fix f)
            refine ⟨rfl, _, rfl, eb, _, 0, _, rfl, rfl, SqT.of heb, rfl, _, rfl, ob, _, 0, _, rfl, rfl, SqT.of hob, rfl, rfl, _, rfl, ?_⟩
            have e3 : decide (V.str e'.1 = V.str ev1.1) = decide (e'.1 = ev1.1) := decide_eq_decide.mpr ⟨fun z => by injection z, fun z => by rw [z]⟩
            rw [e3]
            cases cc : decide (e'.1 = ev1.1) with
            | true => exact iteT ⟨_, rfl, mf_yes m hD mono ee (by omega) (Same.refl _) cc ⟨eb, rfl, heb⟩⟩
            | false => exact iteF (mf_no m mono ee (Same.refl _) cc)
          · exact ⟨D, ys, _, rfl, s10, e10, w9.hd.ne_none hD, al10⟩
        rintro σ H10 ⟨np, nits, o12, rfl, s10, enp, nnp, alnp⟩
        have w10 := w9.same s10
        have k10 : KpX p l H H10 := k9.trans (.same s10)
        have m1 : ev1 ∈ evAll ls := by
          obtain ⟨i, hi⟩ := List.mem_iff_getElem?.mp hv1
          obtain ⟨e2, he2, r2⟩ := w9.alr.get hi
          obtain ⟨b1, hb1, h1⟩ := r2
          obtain ⟨b2, hb2, h2⟩ := p1
          rw [hb1] at hb2
          injection hb2 with hb2
          subst hb2
          rw [h1] at h2
          have := HO.tup.inj (Option.some.inj h2)
          injection this with z1 z2
          injection z1 with z1
          injection z2 with z2 _
          injection z2 with z2
          have : e2 = ev1 := Prod.ext z1 (by omega)
          rw [← this]
          exact at_mem he2
        have lnp : 1 ≤ nits.length := by
          rw [alnp.len]
          exact List.length_pos_of_mem (List.mem_filter.mpr ⟨m1, decide_eq_true rfl⟩)
        have lnp2 : nits.length ≤ 28 := by
          rw [alnp.len]
          exact Nat.le_trans (List.length_filter_le _ _) lev
        refine ⟨fun σ H' => ∃ vo ev n o7, σ = S3 o4 (some v1) (some vo) o7 none none none o12 ∧ W5 H' ∧ PrS H' vo ev ∧ EvOk ls ev n ∧ PrS H' v1 ev1, ?_, ?_⟩
        · refine ⟨_, rfl, p, l, 2, rfl, ⟨by decide, by decide⟩, w10.hd, fun d H11 d0 d2 k11 hd11 => ?_⟩
          have w11 := w10.two k11 hd11
          have k11' : KpX p l H H11 := k10.trans (.two k11)
          have x1011 : KpX p l H9 H11 := (KpX.same s10).trans (.two k11)
          have p1' := PrS.kp p1 w9.hd x1011
          refine ⟨rfl, _, rfl, ?_⟩
          refine iteD (fun c => ?_) fun c => ?_
          · refine ⟨_, rfl, _, rfl, p, l, np, nits, rfl, hd11, fun H' k => SqX.lst (k _ _ (k11 _ _ enp nnp.1 nnp.2) nnp.1 nnp.2), ⟨lnp, by omega⟩, fun vo H12 hvo k12 hd12 => ?_⟩
            obtain ⟨i, hi⟩ := List.mem_iff_getElem?.mp hvo
            obtain ⟨e3, he3, r3⟩ := alnp.get hi
            obtain ⟨n3, hn3⟩ := ev_ok (List.mem_filter.mp (at_mem he3)).1
            have x12 : KpX p l H10 H12 := (KpX.two k11).trans (.two k12)
            exact ⟨vo, e3, n3, _, rfl, ⟨k11'.trans (.two k12), w11.two k12 hd12⟩, PrS.kp r3 w10.hd x12, hn3, PrS.kp p1' w11.hd (.two k12)⟩
          · obtain ⟨p2', o2⟩ := f2 w11
            exact ⟨_, rfl, v2, ev2, n2, _, rfl, ⟨k11', w11⟩, p2', o2, p1'⟩
        rintro σ H11 ⟨vo, ev3, n3, o7, rfl, ⟨k11, w11⟩, p3, o3, p1'⟩
        -- is_alike
        have wo : ∀ {e : Str × Nat} {n : Nat}, EvOk ls e n → woF ls e ls.length = silN ls e.1 n := fun {e n} h => by
          rw [h.2.2]
          exact wo_sil lne h.2.1 h.1
        have nmA : ∀ {e : Str × Nat} {n : Nat}, EvOk ls e n → IsNm e.1 := fun {e n} h => by
          have hm : ls.getD n [] ∈ ls := by
            rw [List.getD_eq_getElem?_getD, List.getElem?_eq_getElem h.1]
            exact List.getElem_mem h.1
          exact nok.nm _ ((okl _ hm).2.2 _ h.2.1)
        refine ⟨_, rfl, _, rfl, _, rfl, a, vp, v1, its, rows, ls, ev1, rfl, w11.ea, w11.al, w11.ev, w11.alv, p1', nmA o1, by omega, lens, fun r1 j1 H12 s12 e12 al12 => ?_⟩
        have w12 := w11.same s12
        refine ⟨_, rfl, _, rfl, _, rfl, a, vp, vo, its, rows, ls, ev3, rfl, w12.ea, w12.al, w12.ev, w12.alv, p3.same s12, nmA o3, by omega, lens, fun r2 j2 H13 s13 e13 al13 => ?_⟩
        rw [wo o1] at al12
        rw [wo o3] at al13
        have nml : ∀ l ∈ ls, ∀ x ∈ l, IsNm x := fun l hl => (lens l hl).2
        refine ⟨lD (silN ls ev1.1 n1), lD (silN ls ev3.1 n3), lD_dp (s13 _ _ e12) (al12.imp fun _ _ r => r.on (.same s13)), lD_dp e13 al13, lD_sh (sil_nm nml), lD_sh (sil_nm nml), ?_⟩
        rw [lD_eq]
        have w13 := w12.same s13
        have k13 : KpX p l H H13 := k11.trans (.same (s12.trans s13))
        have p13 := p1'.same (s12.trans s13)
        have p33 := p3.same (s12.trans s13)
        have no1 := no_first1 (tale_D nok okl)
        have sp1 : ∀ {e : Str × Nat} {n : Nat}, EvOk ls e n → ShP (evPD e) := fun {e n} h => by
          intro d hd
          simp only [List.mem_cons, List.not_mem_nil, or_false] at hd
          rcases hd with rfl | rfl
          · have := (nmA h).2.1
            show e.1.length ≤ 1000
            omega
          · trivial
        have ti : TI1 K H13 (.ref tt) (tD ls) ls := ⟨tale_dp w13.et w13.al, tale_sm nok okl (by omega), fun _ => ⟨tt, rfl, its, w13.et, w13.al.imp fun _ _ r => lotH_S r⟩⟩
        have nu1 := ev_num okl nok o1
        have nu3 := ev_num okl nok o3
        refine ⟨_, rfl, _, rfl, _, rfl, rfl, rfl, ?_⟩
        refine ⟨.ref tt, v1, vo, tD ls, evPD ev1, evPD ev3, ls, rfl, ti, by omega, fun l hl => by have := lot_len nok (okl l hl); omega, nml, p13.dp, fun _ => sp1 o1, p33.dp, fun _ => sp1 o3, fun k hk => (by rw [no1] at hk; cases hk), fun _ z => (by rw [nu1] at z; cases z), fun _ _ z => (by rw [nu3] at z; cases z), fun x1 m1' x2 m2' i1 i2 _ q1 q2 q3 q4 H14 s14 => ?_⟩
        rw [nu1] at q2
        rw [nu3] at q4
        cases q2
        cases q4
        injection q1 with q1
        injection q1 with q1 _
        injection q1 with q1
        injection q3 with q3
        injection q3 with q3 _
        injection q3 with q3
        subst q1 q3
        refine ⟨_, rfl, _, rfl, _, rfl, rfl, _, rfl, ?_⟩
        rw [show ∀ z : V, (!decide (z = z)) = false from fun z => by rw [decide_eq_true rfl]; rfl]
        exact iteF ⟨⟨_, _, _, _, _, _, _, _, rfl⟩, k13.trans (.same s14), w13.same s14⟩
    rintro σ H6 ⟨⟨o4, o5, o6, o7, o8, o9, o10, o12, rfl⟩, k6, w6⟩
    refine ⟨fun σ H' => ∃ (fb : Addr) (x : Str) (i : Int), σ = S3 o4 o5 o6 o7 o8 o9 (some (.ref fb)) o12 ∧ W5 H' ∧ H' fb = some (.tup [.str x, .int i]) ∧ x.length ≤ 1000 ∧ (evAll ls ≠ [] → numF ls (.tuple [.str x, .int i]) ≠ none), ?_, ?_⟩
    · refine ⟨_, rfl, by show 0 ≤ sizeLine; decide, fun t0 k0 => ?_⟩
      have s7 := same_new k0 (.lst [])
      have e7 : upd H6 t0 (.lst []) t0 = some (.lst []) := upd_same
      have w7 := w6.same s7
      have k7 : KpX p l H (upd H6 t0 (.lst [])) := k6.trans (.same s7)
      generalize upd H6 t0 (.lst []) = H7 at s7 e7 w7 k7 ⊢
      refine ⟨_, _, rdp w7, .lst (SqL.of e7) .nil, shr _ nmE, by decide, _, rfl, ?_⟩
      rw [req]
      by_cases c : evAll ls = []
      · rw [decide_eq_true c]
        refine iteF ⟨by show 2 ≤ sizeLine; decide, fun fb hfb => ?_⟩
        have s8 := same_new hfb (.tup [V.str (Str.ofString "x"), .int 1])
        exact ⟨fb, Str.ofString "x", 1, rfl, ⟨k7.trans (.same s8), w7.same s8⟩, upd_same, by decide, fun z => absurd c z⟩
      · rw [decide_eq_false c]
        obtain ⟨e0, he0⟩ : ∃ e0, (evAll ls)[0]? = some e0 := by
          cases h : evAll ls with
          | nil => exact absurd h c
          | cons e _ => exact ⟨e, rfl⟩
        obtain ⟨v0, hv0, fb, rfl, hfb⟩ := w7.alr.getR he0
        obtain ⟨n0, hn0⟩ := ev_ok (at_mem he0)
        refine iteT ⟨_, rfl, rp, rits, 0, .ref fb, rfl, rfl, SqL.of w7.er, atI_nat (j := 0) hv0, ?_⟩
        refine ⟨fb, e0.1, ((e0.2 : Nat) : Int), rfl, ⟨k7, w7⟩, hfb, ?_, fun _ z => ?_⟩
        · have := (nmE e0 (at_mem he0)).2.1
          omega
        · have := ev_num okl nok hn0
          rw [show numF ls (.tuple [.str e0.1, .int (e0.2 : Nat)]) = numF ls (evPD e0) from rfl, this] at z
          cases z
    rintro σ H7 ⟨fb, x, i, rfl, ⟨k7, w7⟩, ef7, lx, fok⟩
    refine ⟨_, rfl, ?_⟩
    refine ⟨by show 2 ≤ sizeLine; decide, fun t1 h1 => ?_⟩
    have g1 := same_new h1 (.tup [V.str (Str.ofString "none"), .int 1])
    have b1 : upd H7 t1 (.tup [V.str (Str.ofString "none"), .int 1]) t1 = some (.tup [V.str (Str.ofString "none"), .int 1]) := upd_same
    generalize upd H7 t1 (.tup [V.str (Str.ofString "none"), .int 1]) = G1 at g1 b1 ⊢
    refine ⟨_, rfl, fb, _, 0, .str x, rfl, rfl, SqT.of (g1 _ _ ef7), rfl, ?_⟩
    refine ⟨by show 2 ≤ sizeLine; decide, fun t2 h2 => ?_⟩
    have g2 := same_new h2 (.tup [V.str x, .int 0])
    have b2 : upd G1 t2 (.tup [V.str x, .int 0]) t2 = some (.tup [V.str x, .int 0]) := upd_same
    generalize upd G1 t2 (.tup [V.str x, .int 0]) = G2 at g2 b2 ⊢
    refine ⟨_, rfl, fb, _, 0, .str x, rfl, rfl, SqT.of ((g1.trans g2) _ _ ef7), rfl, ?_⟩
    refine ⟨by show 2 ≤ sizeLine; decide, fun t3 h3 => ?_⟩
    have g3 := same_new h3 (.tup [V.str x, .int 99])
    have b3 : upd G2 t3 (.tup [V.str x, .int 99]) t3 = some (.tup [V.str x, .int 99]) := upd_same
    generalize upd G2 t3 (.tup [V.str x, .int 99]) = G3 at g3 b3 ⊢
    have g13 := (g1.trans g2).trans g3
    refine ⟨_, rfl, fb, _, 0, .str x, rfl, rfl, SqT.of (g13 _ _ ef7), rfl, ?_⟩
    refine ⟨_, rfl, fb, _, rfl, .inr (SqT.of (g13 _ _ ef7)), fun t4 h4 => ?_⟩
    have g4 := same_new h4 (.lst [V.str x, .int i])
    have b4 : upd G3 t4 (.lst [V.str x, .int i]) t4 = some (.lst [V.str x, .int i]) := upd_same
    have n4 := ((w7.same g13).hd).ne_none h4
    generalize upd G3 t4 (.lst [V.str x, .int i]) = G4 at g4 b4 ⊢
    refine ⟨_, rfl, fb, _, 0, .str x, rfl, rfl, SqT.of ((g13.trans g4) _ _ ef7), rfl, ?_⟩
    refine ⟨by show 2 ≤ sizeLine; decide, fun t5 h5 => ?_⟩
    have g5 := same_new h5 (.tup [V.str x, .bl true])
    have b5 : upd G4 t5 (.tup [V.str x, .bl true]) t5 = some (.tup [V.str x, .bl true]) := upd_same
    generalize upd G4 t5 (.tup [V.str x, .bl true]) = G5 at g5 b5 ⊢
    refine ⟨by show 2 ≤ sizeLine; decide, fun t6 h6 => ?_⟩
    have g6 := same_new h6 (.tup [V.int 1, .int 1])
    have b6 : upd G5 t6 (.tup [V.int 1, .int 1]) t6 = some (.tup [V.int 1, .int 1]) := upd_same
    generalize upd G5 t6 (.tup [V.int 1, .int 1]) = G6 at g6 b6 ⊢
    have g16 := ((g13.trans g4).trans g5).trans g6
    have w16 := w7.same g16
    let bads : List V := [.ref t1, .ref t2, .ref t3, .non, .str x, .ref t4, .ref t5, .ref t6]
    have shX : ∀ (x' : Str) (d' : PyData), (x' = x ∧ ShortD d') → ShP (.tuple [.str x', d']) := fun x' d' h => by
      intro d hd
      simp only [List.mem_cons, List.not_mem_nil, or_false] at hd
      rcases hd with rfl | rfl
      · rw [h.1]; exact lx
      · exact h.2
    have bd : ∀ v ∈ bads, ∃ d, Nd K p l G6 v d ∧ numF ls d = none ∧ ShP d := fun v hv => by
      have hd6 := w16.hd
      have g26 := (((g2.trans g3).trans g4).trans g5).trans g6
      have g36 := ((g3.trans g4).trans g5).trans g6
      have g46 := (g4.trans g5).trans g6
      have g56 := g5.trans g6
      simp only [bads, List.mem_cons, List.not_mem_nil, or_false] at hv
      rcases hv with rfl | rfl | rfl | rfl | rfl | rfl | rfl | rfl
      · refine ⟨_, .tup (g26 _ _ b1) hd6 (.cons (nd_str _) (.cons (nd_int _) .nil)), ?_, ?_⟩
        · unfold numF
          rw [evD_pair]
          by_cases z : nmD (.str (Str.ofString "none")) = true ∧ (1 : Int) ≤ 1
          · rw [if_pos z]
            show evL ls (Str.ofString "none") 1 0 = none
            exact evL_no 0 fun l hl hx => nno _ ((okl l hl).2.2 _ hx) rfl
          · rw [if_neg z]
        · intro d hd
          simp only [List.mem_cons, List.not_mem_nil, or_false] at hd
          rcases hd with rfl | rfl
          · show (Str.ofString "none").length ≤ 1000
            decide
          · trivial
      · refine ⟨_, .tup (g36 _ _ b2) hd6 (.cons (nd_str _) (.cons (nd_int _) .nil)), ?_, shX _ _ ⟨rfl, trivial⟩⟩
        unfold numF
        rw [evD_pair, if_neg fun z => by have := z.2; omega]
      · refine ⟨_, .tup (g46 _ _ b3) hd6 (.cons (nd_str _) (.cons (nd_int _) .nil)), ?_, shX _ _ ⟨rfl, trivial⟩⟩
        unfold numF
        rw [evD_pair]
        by_cases z : nmD (.str x) = true ∧ (1 : Int) ≤ 99
        · rw [if_pos z]
          show evL ls x 99 0 = none
          exact evL_far 0 (by omega)
        · rw [if_neg z]
      · exact ⟨_, nd_non, rfl, trivial⟩
      · exact ⟨_, nd_str _, rfl, trivial⟩
      · exact ⟨_, .lst (g56 _ _ b4) n4.1 n4.2 (.cons (nd_str _) (.cons (nd_int _) .nil)), rfl, trivial⟩
      · exact ⟨_, .tup (g6 _ _ b5) hd6 (.cons (nd_str _) (.cons (fun _ _ => .bl true) .nil)), by unfold numF; rw [evD_no2 rfl], shX _ _ ⟨rfl, trivial⟩⟩
      · exact ⟨_, .tup b6 hd6 (.cons (nd_int _) (.cons (nd_int _) .nil)), rfl, by
          intro d hd
          simp only [List.mem_cons, List.not_mem_nil, or_false] at hd
          rcases hd with rfl | rfl <;> trivial⟩
    refine ⟨by show 8 ≤ sizeLine; decide, fun bp hbp => ?_⟩
    have g7 := same_new hbp (.lst bads)
    have ebp : upd G6 bp (.lst bads) bp = some (.lst bads) := upd_same
    have nbp := w16.hd.ne_none hbp
    have w17 := w16.same g7
    have k17 : KpX p l H (upd G6 bp (.lst bads)) := k7.trans (.same (g16.trans g7))
    have ef17 := (g16.trans g7) _ _ ef7
    have bd7 : ∀ v ∈ bads, ∃ d, Nd K p l (upd G6 bp (.lst bads)) v d ∧ numF ls d = none ∧ ShP d := fun v hv => let ⟨d, h1, h2, h3⟩ := bd v hv; ⟨d, h1.on (.same g7), h2, h3⟩
    generalize upd G6 bp (.lst bads) = G7 at g7 ebp w17 k17 ef17 bd7 ⊢
    refine ⟨p, l, bp, bads, rfl, w17.hd, fun H' k => SqX.lst (k _ _ ebp nbp.1 nbp.2), ⟨by show 1 ≤ 8; decide, by show 8 ≤ 1000; decide⟩, fun bad G8 hbad k8 hd8 => ?_⟩
    obtain ⟨bdd, ndb, nob, shb⟩ := bd7 bad hbad
    have w8 := w17.two k8 hd8
    have k8' : KpX p l H G8 := k17.trans (.two k8)
    have ndb8 := ndb.on (.two k8)
    have ef8 := k8 _ _ ef17 (w17.hd.ne_tup ef17).1 (w17.hd.ne_tup ef17).2
    clear bd7 bd hbad ndb ebp nbp
    let σ8 : L2.St := S3 o4 o5 o6 o7 o8 (some bad) (some (.ref fb)) o12
    have dF : ∀ {H'}, H' fb = some (.tup [.str x, .int i]) → Dp K H' (.ref fb) (.tuple [.str x, .int i]) := fun {H'} e => .tup (SqT.of e) (.cons (.str _) (.cons (.int _) .nil))
    have shF : ShP (.tuple [.str x, .int i]) := by
      intro d hd
      simp only [List.mem_cons, List.not_mem_nil, or_false] at hd
      rcases hd with rfl | rfl
      · exact lx
      · trivial
    refine ⟨fun σ H' => σ = σ8 ∧ evAll ls ≠ [] ∧ Same G8 H', ?_, ?_⟩
    · refine ⟨_, rfl, by show 0 ≤ sizeLine; decide, fun t0 k0 => ?_⟩
      have s9 := same_new k0 (.lst [])
      have e9 : upd G8 t0 (.lst []) t0 = some (.lst []) := upd_same
      have w9 := w8.same s9
      have k9 : KpX p l H (upd G8 t0 (.lst [])) := k8'.trans (.same s9)
      have nd9 := ndb8.on (.same s9)
      generalize upd G8 t0 (.lst []) = G9 at s9 e9 w9 k9 nd9 ⊢
      refine ⟨_, _, rdp w9, .lst (SqL.of e9) .nil, shr _ nmE, by decide, _, rfl, ?_⟩
      rw [req]
      by_cases c : evAll ls = []
      · rw [decide_eq_true c]
        refine iteT ⟨w9.tabs, fun G10 x10 t10 => ⟨_, rfl, _, rfl, _, rfl, ?_⟩⟩
        dsimp only [tNil]
        refine al_told (C := C) (R := R) (k := 1) w9 nok okl ll x10 (nd9 _ (.ext x10)) shb (dF (x10 _ _ (s9 _ _ ef8) notbl)) shF (.inl ⟨rfl, nob⟩) fun t G11 s11 e11 => ?_
        refine ⟨by show 2 ≤ sizeLine; decide, fun t2 h2 => ?_⟩
        have s12 := same_new h2 (.lst [V.str (Str.ofString "heard"), .int 1])
        refine ⟨_, _, dp_ref2 (s12 _ _ e11), dp_ref2 upd_same, heard_sh 1, heard_sh 1, ?_⟩
        rw [sh_refl (heard_sh 1)]
        exact q _ (k9.trans ((KpX.ext x10).trans (.same (s11.trans s12)))) ((deal_ext w9.hd x10).same (s11.trans s12)) (tabs_same t10 (s11.trans s12))
      · rw [decide_eq_false c]
        exact iteF ⟨rfl, c, s9⟩
    rintro σ G9 ⟨rfl, c, s9⟩
    have w9 := w8.same s9
    have k9 : KpX p l H G9 := k8'.trans (.same s9)
    have nd9 := ndb8.on (.same s9)
    have ef9 := s9 _ _ ef8
    refine ⟨fun σ H' => σ = σ8 ∧ ExtN G9 H' ∧ Tabs T H', ?_, ?_⟩
    · refine ⟨w9.tabs, fun G10 x10 t10 => ⟨_, rfl, _, rfl, ?_⟩⟩
      dsimp only [tNil]
      refine al_told (C := C) (R := R) (k := 1) w9 nok okl ll x10 (nd9 _ (.ext x10)) shb .non trivial (.inl ⟨rfl, nob⟩) fun t G11 s11 e11 => ?_
      refine ⟨by show 2 ≤ sizeLine; decide, fun t2 h2 => ?_⟩
      have s12 := same_new h2 (.lst [V.str (Str.ofString "heard"), .int 1])
      refine ⟨_, _, dp_ref2 (s12 _ _ e11), dp_ref2 upd_same, heard_sh 1, heard_sh 1, _, rfl, ?_⟩
      rw [sh_refl (heard_sh 1)]
      exact iteF ⟨rfl, fun b o e n => (s11.trans s12) _ _ (x10 _ _ e n), tabs_same t10 (s11.trans s12)⟩
    rintro σ G10 ⟨rfl, x10, t10⟩
    refine ⟨t10, fun G11 x11 t11 => ⟨_, rfl, _, rfl, _, rfl, ?_⟩⟩
    have x911 : ExtN G9 G11 := fun b o e n => x11 _ _ (x10 _ _ e n) n
    dsimp only [tNil]
    refine al_told (C := C) (R := R) (k := 2) w9 nok okl ll x911 (dF (x911 _ _ ef9 notbl)) shF (nd9 _ (.ext x911)) shb (.inr ⟨rfl, fok c, nob⟩) fun t G12 s12 e12 => ?_
    refine ⟨by show 2 ≤ sizeLine; decide, fun t2 h2 => ?_⟩
    have s13 := same_new h2 (.lst [V.str (Str.ofString "heard"), .int 2])
    refine ⟨_, _, dp_ref2 (s13 _ _ e12), dp_ref2 upd_same, heard_sh 2, heard_sh 2, ?_⟩
    rw [sh_refl (heard_sh 2)]
    exact q _ (k9.trans ((KpX.ext x911).trans (.same (s12.trans s13)))) ((deal_ext w9.hd x911).same (s12.trans s13)) (tabs_same t11 (s12.trans s13))
end
end K6

/-! a comprehension none of whose items is kept; its test may lean on what the def's own frame holds where the comprehension begins; calls in it -/
namespace Cn
open PySem PySem.Spec PyProof.Rows L2 LamX Cq
section
variable {X : Cx}
def tLcN (wi : TI) (g : TG) (tt : L2.St → TT) (vs : List Nat) : TE := fun σ H Q => wi σ H fun J H1 => ∀ D, H1 D = none → ∃ (n : Nat) (Pv : Nat → Hp → Prop), Pv 0 (upd H1 D (.lst [])) ∧ ∀ i H, Pv i H →
  (J.stop i H ∧ Q (.ref D) H) ∨ (i < n ∧ J.go i H ∧ ∀ x H', J.yld i H x H' → g x (wipe σ vs) H' fun σ2 H2 => wipe σ2 vs = wipe σ vs ∧ tt σ σ2 H2 fun b H3 => b = false ∧ Pv (i + 1) H3)
theorem pe_lcN {elt tg iter : Expr} {ifs : List Expr} {scope : Scope} {own : List (Str × Nat)} {pos : Pos} {wi : TI} {g : TG} {tt : L2.St → TT} (hc : X.calm = true) (hN : X.N.Nodup) (hi : PI X tg iter wi) (ok : BlkOk X.N X.env.scope scope own)
    (hg : ∀ (s : Shared) (H : Hp) (C : Addr) (cl : List (Str × Addr)) (fp : List Addr), PG (X.blk s H scope (compEnvC scope cl C X.env) fp) tg g)
    (ht : ∀ (pins : List (Addr × Obj)) (σ : L2.St) (s : Shared) (H : Hp) (C : Addr) (cl : List (Str × Addr)) (fp : List Addr), Inv X pins σ H s → (∀ b ∈ fp, FpOk X pins H b) → PTs (X.blk s H scope (compEnvC scope cl C X.env) fp) ifs (tt σ))
    (hs : ∀ x, foldedSetIterable iter X.env x = pure x := by intro _; rfl) : PE X (.ListComp elt [⟨tg, iter, ifs, 0⟩] scope pos) (tLcN wi g tt (own.map (·.2))) := by
  refine ⟨fun pins s σ H Q I h => ?_⟩
  rw [eval_ListComp]
  have hfree : ∀ y ∈ scope.names, y.2 = .free → ∃ c, X.env.cells.lookup y.1 = some c := fun y hy e => (ok.free y hy e).elim (fun k => I.ok.has _ (.inl k)) fun k => I.ok.has _ (.inr k)
  refine wpAny_comprehension_free (use := none) rfl hs (closure_ok hfree) ok.kind (fun y hy e => by rw [ok.uniq y hy, e]) (thn (hi.run pins s σ H _ I h) fun xv s1 hx => thn hx fun itv s2 h2 => ?_)
  obtain ⟨it, fp, tn, J, H2, rfl, I2, T, st2, f2, q⟩ := h2
  refine wpAny_newObj_type (newEnv_comp ?_) (by show 0 ≤ sizeLine; decide)
  have hDn : H2 s2.heap.objs.size = none := I2.hok.fresh (Nat.le_refl _)
  obtain ⟨n, Pv, p0, turn⟩ := q _ hDn
  have hgrow : ∀ b o, s2.heap.get? b = some o → (s2.heap.push { cls := .type "list", data := .seq ([] : List Value).toArray }).get? b = some o := fun b o e => Heap.get?_push_of_some _ e
  have I3 : Inv X pins σ (upd H2 s2.heap.objs.size (.lst [])) { s2 with heap := s2.heap.push { cls := .type "list", data := .seq ([] : List Value).toArray } } :=
    I2.laid (t' := s2.toks) hgrow (Nat.le_refl _) ⟨Nat.zero_le _, [], 0, .nil, Heap.get?_push_size _ rfl⟩
  have hit : ∀ b ∈ fp, b < s2.heap.objs.size := fun b hb => let ⟨_, e, _⟩ := T.obj _ _ st2 b hb; Heap.lt_size e
  have f3 : ∀ b ∈ fp, FpOk X pins (upd H2 s2.heap.objs.size (.lst [])) b := fun b hb => ⟨by rw [upd_ne (Nat.ne_of_lt (hit b hb))]; exact (f2 b hb).1, (f2 b hb).2⟩
  have st3 := T.keep _ _ _ st2 fun b _ o e => hgrow b o e
  have hz : (s2.heap.push { cls := .type "list", data := .seq ([] : List Value).toArray }).objs.size = s2.heap.objs.size + 1 := Heap.size_push _ _
  generalize hD : s2.heap.objs.size = D at *
  generalize hs3 : ({ s2 with heap := s2.heap.push { cls := .type "list", data := .seq ([] : List Value).toArray } } : Shared) = s3 at I3
  have e3 : s3.heap = s2.heap.push { cls := .type "list", data := .seq ([] : List Value).toArray } := by rw [← hs3]
  rw [← e3] at st3 hz
  have f4 : ∀ b ∈ fp, FpOk X pins (upd H2 D (.lst [])) b ∧ b < s3.heap.objs.size := fun b hb => ⟨f3 b hb, by rw [hz]; exact Nat.lt_succ_of_lt (hit b hb)⟩
  have I4 := block_start I3 ok hN f4
  generalize hH3 : upd H2 D (.lst []) = H3 at I3 I4 f3 f4 p0
  have pg := hg s3 H3 s3.heap.objs.size (cellsFrom (s3.heap.objs.size + 1) scope.names (cloFrom X.env.cells scope.names [])) fp
  have pt := ht pins σ s3 H3 s3.heap.objs.size (cellsFrom (s3.heap.objs.size + 1) scope.names (cloFrom X.env.cells scope.names [])) fp I3 f3
  show codeAny _ _ (.compStart (.ListComp elt [⟨tg, iter, ifs, 0⟩] scope pos) 0 (.ref it) (.ref D) (compEnvC scope (cellsFrom (s3.heap.objs.size + 1) scope.names (cloFrom X.env.cells scope.names [])) s3.heap.objs.size X.env)) (compPost (model X.prog X.w) X.A X.xe none (EP X pins σ Q) (.ref D) s3.heap.objs.size) { s3 with heap := pushCells (s3.heap.push { cls := .type "dict", data := .dict #[] }) scope.names }
  generalize hce : compEnvC scope (cellsFrom (s3.heap.objs.size + 1) scope.names (cloFrom X.env.cells scope.names [])) s3.heap.objs.size X.env = ce at I4 pg pt ⊢
  have cL : ce.locals = s3.heap.objs.size := by subst hce; rfl
  generalize hs4 : ({ s3 with heap := pushCells (s3.heap.push { cls := .type "dict", data := .dict #[] }) scope.names } : Shared) = s4 at I4 ⊢
  have st4 : tn 0 s4.heap := T.keep _ _ _ st3 fun b _ o e => by rw [← hs4]; exact pushCells_keeps _ _ _ _ (Heap.get?_push_of_some _ e)
  -- how the block stands ahead of the i-th item
  let B : Nat → Shared → Prop := fun k s' => ∃ i H', k + i = n ∧ Inv (X.blk s3 H3 scope ce fp) [] (wipe σ (own.map (·.2))) H' s' ∧ tn i s'.heap ∧ (∀ b ∈ fp, H' b = none) ∧ Pv i H'
  have okF : ∀ {σ' : L2.St} {H' : Hp} {s' : Shared}, Inv (X.blk s3 H3 scope ce fp) [] σ' H' s' → (∀ b ∈ fp, H' b = none) → ∀ b ∈ fp, FpOk (X.blk s3 H3 scope ce fp) [] H' b := fun {σ' H' s'} J' z b hb =>
    ⟨z b hb, (J'.ok.exf b hb).1, J'.ok.exfs b hb, .inl hb, fun x c e => (J'.ok.exf b hb).2 x c e, fun p hp => by cases hp⟩
  have loop : codeAny (model X.prog X.w) X.A (.compLoop (.ListComp elt [⟨tg, iter, ifs, 0⟩] scope pos) 0 (.ref it) (.ref D) ce) (compPost (model X.prog X.w) X.A X.xe none (EP X pins σ Q) (.ref D) s3.heap.objs.size) s4 := by
    refine compLoop_any B ?_ n ⟨0, H3, rfl, I4, st4, fun b hb => (f3 b hb).1, p0⟩
    rintro k s5 ⟨i, H5, ki, I5, st5, z5, p5⟩
    rcases turn i H5 p5 with ⟨stop, fin⟩ | ⟨lt, go, step⟩
    · refine thnF (T.done (X.blk s3 H3 scope ce fp) rfl rfl rfl hc i [] s5 _ H5 (fun _ _ => False) I5 (okF I5 z5) st5 stop) fun r s6 ⟨hr, I6⟩ => ?_
      subst hr
      have I7 : Inv X pins σ H5 s6 := I3.call' (ch := fp) I6.os I6.base I6.hok I6.bare fun b hb => ⟨(f3 b hb).2.2.2.1, (f3 b hb).2.1, (f3 b hb).2.2.2.2.1, (f3 b hb).2.2.2.2.2⟩
      have nC : H5 s3.heap.objs.size = none := cL ▸ (show H5 ce.locals = none from I6.free)
      obtain ⟨m, hn, _⟩ := I6.loc
      have hn : s6.heap.Ns s3.heap.objs.size m := cL ▸ (show s6.heap.Ns ce.locals m from hn)
      obtain ⟨g0, g1, g2, g3, g4, g5⟩ := I3.fpOk (Nat.le_refl _) nC
      exact ⟨m, hn, fun h'' sb => ⟨.ref D, H5, I7.turned (t' := s6.toks) (fun b o hb e => (sb.2 b hb).trans e) g0 g1 g3 g4 g5, rfl, fin⟩⟩
    · refine thnF (T.item (X.blk s3 H3 scope ce fp) rfl rfl rfl hc i [] s5 _ H5 (fun _ _ => False) I5 (okF I5 z5) st5 go) fun r s6 ⟨u, hr, h6⟩ => ?_
      subst hr
      refine thnF h6 fun _ s7 ⟨x, H7, I7, r7, y7, st7, z7⟩ => ?_
      refine thnF (pg.run _ s7 _ H7 x u _ (I7.pinned (okF I7 z7) (T.obj _ _ st7)) r7 (step x H7 y7)) fun _ s8 ⟨σ8, H8, I8, hw8, q8⟩ => ?_
      refine thnF (pt.run _ s8 σ8 H8 _ I8 q8) fun b s9 ⟨H9, I9, hb9, p9⟩ => ?_
      subst hb9
      have there : ∀ b ∈ fp, ∀ o, s7.heap.get? b = some o → s9.heap.get? b = some o ∧ H9 b = none := fun b hb o e =>
        let z := I9.pin (b, o) (List.mem_append_right _ (List.mem_append_right _ (mem_pinsAt hb e)))
        ⟨z.1, z.2.1⟩
      simp only [Bool.false_eq_true, if_false]
      refine ⟨k - 1, by omega, i + 1, H9, by omega, (I9.unpinned (pins := [])).weak (by rw [← hw8, wipe_length]) (fun j v e => by rw [← hw8] at e; exact (wipe_some e).1), T.keep _ _ _ st7 fun b hb o e => (there b hb o e).1, fun b hb => ?_, p9⟩
      obtain ⟨o, e, _⟩ := T.obj _ _ st7 b hb
      exact (there b hb o e).2
  exact codeAny_compStart_list loop (T.self X.A 0 _ _ _ st4 loop)
/-- what the def's own cells held where the block began, they hold in it -/
theorem celB_blk {pins pins' : List (Addr × Obj)} {σ σ' : L2.St} {H H' : Hp} {s s' : Shared} {scope : Scope} {ce : Env} {fp : List Addr} (I : Inv X pins σ H s) (hf : ∀ b ∈ fp, FpOk X pins H b) (J : Inv (X.blk s H scope ce fp) pins' σ' H' s') (hfn : ∀ x, X.fn x = true) : CelB X σ (hidF s'.heap H' (frs X.stack)) := by
  have B := celB_hid I hfn
  have up : ∀ {x c o}, X.env.cells.lookup x = some c → (hidF s.heap H (frs X.stack)).get? c = some o → (hidF s'.heap H' (frs X.stack)).get? c = some o := fun {x c o} e g => by
    obtain ⟨g1, g2, g3⟩ := of_hidF g
    have nx : c ∉ fp := fun m => (hf c m).2.2.2.2.1 x c e rfl
    have u := J.base
    exact hidF_get (u.keep c o g1 g2 g3 nx) (u.free c o g1 g2 nx) g3
  refine ⟨B.inj, fun x c e => ?_, B.has, fun i x v h1 h2 h3 => ?_⟩
  · obtain ⟨o, v, g, d⟩ := B.all x c e
    exact ⟨o, v, up e g, d⟩
  · obtain ⟨c, o, u, e, g, d, r⟩ := B.val i x v h1 h2 h3
    exact ⟨c, o, u, e, up e g, d, r⟩
/-- within the block: a call of a def that gets values that may be called -/
def tHoB (X : Cx) (σ0 : L2.St) (sp : Heap → Sp) (ta : TA) : TE := fun σ H Q => ta σ H fun vs H1 => ∀ b, LeB X.K X.mg X.base b → CelB X σ0 b → sp b vs H1 Q E0
theorem pe_hoB {ps : List Str} {lv : Nat} {sp : Heap → Sp} {x : Str} {p pos : Pos} {e : Expr} {es : List Expr} {t : TA} {pins : List (Addr × Obj)} {σ : L2.St} {H : Hp} {s : Shared} {scope : Scope} {ce : Env} {fp : List Addr} (C : Ho X.prog X.w X.K X.mg X.base CX0 x ps lv sp) (I : Inv X pins σ H s) (hf : ∀ b ∈ fp, FpOk X pins H b) (hfn : ∀ x, X.fn x = true) (hr : Room lv X.A)
    (hg : Gl (X.blk s H scope ce fp) x) (ha : PA (X.blk s H scope ce fp) (e :: es) t) (hdb : (x == ("__debug__" : Str)) = false := by decide)
    (he : starEach (e :: es) ce = (false, eval e ce) :: starEach es ce := by rfl) (hpl : (backTo pos (starEach es ce)).any (·.1) = false := by rfl) : PE (X.blk s H scope ce fp) (.Call (.Name x p) (e :: es) [] pos) (tHoB X σ sp t) := by
  obtain ⟨f, fd, F, hm, hk, hb⟩ := C.ex
  refine ⟨fun pins' s' σ' H' Q J h => ?_⟩
  refine wpAny_Call_Name_kw (ld_glob J hg hm ?_ hdb)
  refine PySem.W.callWith_K (h₀ := X.base) J.ok.mod.kin hk (thn (ha.run pos pins' s' σ' H' _ J h) fun us s1 ⟨vs, H1, I1, r, q⟩ => ⟨I1.kIn, ?_⟩) he hpl
  have le := le_hid (X := X.blk s H scope ce fp) I1
  have z := q _ le (celB_blk I hf I1 hfn)
  have FF := F _ le
  have hl : us.length = ps.length := by rw [← r.length]; exact FF.len _ _ _ _ z
  have bb := hb s1 us I1.kIn (by rw [List.append_nil]; exact hl)
  rw [List.append_nil] at bb
  refine wpAny_call (codeAny_mono (FF.run X.A X.stack s1 H1 ⟨us, []⟩ us vs Q E0 hr (env0_hid (X := X.blk s H scope ce fp) I1) bb r z) fun r s' hq => ?_)
  cases r with
  | error e => exact False.elim hq
  | ok fl =>
    cases fl with
    | ret u => exact I1.after hq
    | next => exact False.elim hq
    | brk => exact False.elim hq
    | cont => exact False.elim hq
/-- f(), f a name that holds a value that may be called without arguments -/
theorem pe_varV0 {a : Str} {lv i : Nat} {sp : Sp} {E : XK} {p pos : Pos} (nm : X.N[i]? = some a) (vis : Vis X.env.scope a) (hr : Room lv X.A) (hx : Passes (L2.CX X.prog X.w) X E)
    (d1 : (a == ("__debug__" : Str)) = false := by decide) (d2 : (a == ("__classdict__" : Str)) = false := by decide) :
    PE X (.Call (.Name a p) [] [] pos) (fun σ H Q => ∃ f, σ[i]? = some (some (.ref f)) ∧ CallV X.prog X.w X.K X.mg X.base lv sp H f ∧ sp [] H Q E) := by
  refine ⟨fun pins s σ H Q I h => ?_⟩
  obtain ⟨f, ef, ⟨fs, k1, k2, k3⟩, h⟩ := h
  refine wpAny_Call_Name_kw (thn ((pe_var (pos := p) (i := i) nm vis d1 d2).run pins s σ H (fun v H1 => v = .ref f ∧ H1 = H) I ⟨.ref f, ef, rfl, rfl⟩) fun u s1 ⟨v, H1, I1, r1, ev, eH⟩ => ?_)
  subst ev eH
  obtain rfl : u = Value.ref f := r1
  refine PySem.W.callWith_F0 (first := []) (k2 _ _ _ _ I1.env0 fun p m => (k1 p m).1) ?_
  show wpAny _ _ (call (.ref f) []) _ _ _
  refine wpAny_call (codeAny_mono (k3 _ _ _ _ [] [] _ _ hr I1.env0 (fun p m => (k1 p m).1) .nil h) fun r s3 hq => ?_)
  cases r with
  | error er => exact hx pins σ H1 s1 er s3 I1 hq
  | ok fl =>
    cases fl with
    | ret u => exact I1.after hq
    | next => exact False.elim hq
    | brk => exact False.elim hq
    | cont => exact False.elim hq
end
end Cn

namespace K6
open PySem PySem.Spec PyProof.Rows L2 Hb St Sq Ow En Zp RZ Rd Xb Da Lg LamX Ty Lc Cq Cn
section
variable {P : Program} {w : World} {K : PySem.W.Frag} {mg : Str → Option Value}
/-- _law_told of a value that may be called -/
def spToV (P : Program) (w : World) (K : PySem.W.Frag) (mg : Str → Option Value) (lv : Nat) (C R : Addr) (b : Heap) : Sp := fun vs H Q _ => ∃ (f c' : Addr) (q : Str) (spf : Sp), vs = [.ref f] ∧ H c' = some (CodeO c' q) ∧ CallV P w K mg b lv spf H f ∧ spf [] H Q (eTold K C R Q)
theorem ok_told {base : Heap} {lv : Nat} {g C R fC fR : Addr} {fd : FuncData} (F : Fun K "_law_told" "_law_told" s__law_told g fd) (TH : ErrC K mg "InvalidHeard" C fC) (TR : ErrC K mg "Refused" R fR) (eRC : PySem.W.exmOne K (.ref R) (.ref C) = some false) : FnOk P w K mg base CX0 (lv + 1) g fd ["work"] (spToV P w K mg lv C R base) := by
  refine F.ok sc__law_told (fun vs H Q E h => ?_) (fun cdv A outer s H vs Q E hr h => ?_)
  · obtain ⟨_, _, _, _, rfl, _⟩ := h
    rfl
  · obtain ⟨f, c', q, spf, rfl, hc, cv, h⟩ := h
    let X : Cx := { (cxOf CX0 P w K mg base ["work", "wrong"] "_law_told" (defScope s__law_told) g cdv A outer s H E) with A := A, stack := outer }
    have G := told2 (X := X) (q := q) (g := g) (cdg := cdv) TH TR eRC
    obtain ⟨t, ht, hq⟩ := G f c' s H Q (fun E HZ Q => CallV P w K mg base lv spf HZ f ∧ spf [] HZ Q E) (fun W pn xe Ech p1 p2 tk hW => ⟨fun pins s' σ' H' Q' I' ⟨h1, h2, h3, h4⟩ =>
      (pe_varV0 (X := (cxOf C8.CX0 X.prog X.w X.K X.mg X.base ["work", "wrong"] "_law_told" (defScope s__law_told) g cdv X.A X.stack s H C8.E0).tr pn xe) (a := "work") (lv := lv) (i := 0) (sp := spf) (E := Ech) (p := p1) (pos := p2) rfl (.inl rfl) hr (passes_call tk hW)).run pins s' σ' H' Q' I' ⟨f, h1, h3, h4⟩⟩) hc ⟨cv, h⟩
    exact ⟨t, ht, hq⟩
end
end K6

namespace K6
open PySem PySem.Spec PyProof.Rows L2 Hb St Sq Ow En Zp RZ Rd Xb Da Lg LamX Ty Lc Cq Cn
abbrev s_law : Stmt := top 45
theorem sc_law : FnScope ["script", "heap", "names", "heard", "short", "many", "lot", "works", "bad", "lots", "work"] ["script"] (defScope s_law) := ⟨rfl, rfl, rfl, by decide +kernel, rfl, by decide +kernel, by decide +kernel⟩
def shB : PyData → Bool
  | .str x => decide (x.length ≤ 1000)
  | _ => true
def sm1B : PyData → Bool
  | .tuple ds => decide (ds.length ≤ 1000) && ds.all shB
  | _ => true
def sm2B : PyData → Bool
  | .tuple ds => decide (ds.length ≤ 1000) && ds.all sm1B
  | _ => true
theorem sh_by : ∀ d : PyData, shB d = true → ShortD d
  | .str x, h => show x.length ≤ 1000 from of_decide_eq_true h
  | .int _, _ => trivial
  | .none, _ => trivial
  | .bool _, _ => trivial
  | .tuple _, _ => trivial
  | .list _, _ => trivial
  | .dict _, _ => trivial
theorem sm1_by : ∀ d : PyData, sm1B d = true → Sm1 d
  | .tuple ds, h => by
    have h : (decide (ds.length ≤ 1000) && ds.all shB) = true := h
    rw [Bool.and_eq_true, decide_eq_true_eq, List.all_eq_true] at h
    exact ⟨h.1, fun d hd => sh_by d (h.2 d hd)⟩
  | .int _, _ => trivial
  | .none, _ => trivial
  | .bool _, _ => trivial
  | .str _, _ => trivial
  | .list _, _ => trivial
  | .dict _, _ => trivial
theorem sm2_by : ∀ d : PyData, sm2B d = true → Sm2 d
  | .tuple ds, h => by
    have h : (decide (ds.length ≤ 1000) && ds.all sm1B) = true := h
    rw [Bool.and_eq_true, decide_eq_true_eq, List.all_eq_true] at h
    exact ⟨h.1, fun d hd => sm1_by d (h.2 d hd)⟩
  | .int _, _ => trivial
  | .none, _ => trivial
  | .bool _, _ => trivial
  | .str _, _ => trivial
  | .list _, _ => trivial
  | .dict _, _ => trivial
def badC (d : PyData) : Bool := !taleD d && sm2B d
/-- no tale -/
structure BadT (d : PyData) : Prop where
  nt : taleD d = false
  s2 : Sm2 d
theorem bad_by {d : PyData} (h : badC d = true) : BadT d := by
  unfold badC at h
  rw [Bool.and_eq_true, Bool.not_eq_true'] at h
  exact ⟨h.1, sm2_by d h.2⟩
theorem first1_0 {d : PyData} (h : taleD d = false) : firstNo [d] = some 0 := by
  unfold firstNo
  rw [List.findIdx?_cons, h]; rfl
abbrev qLW : Str := (envOfC "law" (defScope s_law) 0 0 .none).qual ++ "<lambda>"
def lamOf : Stmt → Expr
  | .Assign _ (.List (e :: _) _) _ => e
  | .Expr (.Call _ (e :: _) _ _) _ => e
  | _ => .Constant .none 0 ⟨0, 0, 0, 0⟩
abbrev lam0 : Expr := lamOf ((defBody s_law).getD 9 (.Pass ⟨0, 0, 0, 0⟩))
abbrev lam1 : Expr := lamOf ((defBody s_law).getD 10 (.Pass ⟨0, 0, 0, 0⟩))
abbrev lam2 : Expr := lamOf ((defBody s_law).getD 11 (.Pass ⟨0, 0, 0, 0⟩))
abbrev lam3 : Expr := lamOf ((defBody s_law).getD 12 (.Pass ⟨0, 0, 0, 0⟩))
theorem frL0 : ∀ y ∈ (lSc lam0).names, y.2 = .free → (defScope s_law).names.lookup y.1 = some .cell ∨ (defScope s_law).names.lookup y.1 = some .free := by decide +kernel
theorem frL1 : ∀ y ∈ (lSc lam1).names, y.2 = .free → (defScope s_law).names.lookup y.1 = some .cell ∨ (defScope s_law).names.lookup y.1 = some .free := by decide +kernel
theorem frL2 : ∀ y ∈ (lSc lam2).names, y.2 = .free → (defScope s_law).names.lookup y.1 = some .cell ∨ (defScope s_law).names.lookup y.1 = some .free := by decide +kernel
theorem frL3 : ∀ y ∈ (lSc lam3).names, y.2 = .free → (defScope s_law).names.lookup y.1 = some .cell ∨ (defScope s_law).names.lookup y.1 = some .free := by decide +kernel
section
variable {P : Program} {w : World} {K : PySem.W.Frag} {mg : Str → Option Value} {base : Heap}
/-- asked of what is no tale: refused at 0 -/
def spBT (K : PySem.W.Frag) (C : Addr) (T : List (Addr × Str)) (cvs : List V) : Sp := fun vs H _ E => ∃ (v : V) (d : PyData), cvs = [v] ∧ vs = [] ∧ Dp K H v d ∧ BadT d ∧ Tabs T H ∧ ∀ dd H', Same H H' → H' dd = some (errH 0) → E (.ref C) (some dd) H'
theorem lam_0 {C : Addr} {T : List (Addr × Str)} (C_heard_tales : Cx_ P w K mg base "heard_tales" ["lots"] 5 (spHear K C)) : LmC P w K mg base 9 qLW (lPrm lam0) (lBod lam0) (lSc lam0) [] ["bad"] (spBT K C T) where
  kind := rfl
  co := rfl
  gen := rfl
  noc := by decide +kernel
  loc := by decide +kernel
  fre := by decide +kernel
  nd := by decide +kernel
  len := fun cvs vs H Q E h => by
    obtain ⟨_, _, _, rfl, _⟩ := h
    rfl
  bind := fun us cl pm cv ct h => by
    match us, h with
    | [], _ => rfl
  run := fun cvs f c cl A outer s H vs Q E hr _ h => by
    obtain ⟨v, d, rfl, rfl, hv, bd, tabs, q⟩ := h
    refine ⟨_, pe_useX C_heard_tales (hr.mono (by decide)) (fun σ => passAt (takes_of rfl rfl rfl rfl) σ) rfl (pa_cons (pv 0) pa_nil), ?_⟩
    have no := first1_0 bd.nt
    refine ⟨_, rfl, v, d, [], rfl, ⟨hv, bd.s2, fun z => (by rw [no] at z; cases z)⟩, by decide, fun _ hl => (by cases hl), fun z => (by rw [no] at z; cases z), fun k hk dd H' s e => ?_⟩
    rw [no] at hk
    cases hk
    exact q dd H' s e
theorem lam_1 {C R : Addr} {T : List (Addr × Str)} (C_silent_for_sure : Cx_ P w K mg base "silent_for_sure" ["lots", "heard"] 9 (spSure K C R T silentF)) : LmC P w K mg base 9 qLW (lPrm lam1) (lBod lam1) (lSc lam1) [] ["bad"] (spBT K C T) where
  kind := rfl
  co := rfl
  gen := rfl
  noc := by decide +kernel
  loc := by decide +kernel
  fre := by decide +kernel
  nd := by decide +kernel
  len := fun cvs vs H Q E h => by
    obtain ⟨_, _, _, rfl, _⟩ := h
    rfl
  bind := fun us cl pm cv ct h => by
    match us, h with
    | [], _ => rfl
  run := fun cvs f c cl A outer s H vs Q E hr _ h => by
    obtain ⟨v, d, rfl, rfl, hv, bd, tabs, q⟩ := h
    refine ⟨_, pe_useX C_silent_for_sure hr (fun σ => passAt (takes_of rfl rfl rfl rfl) σ) rfl (pa_cons (pv 0) (pa_cons pe_non pa_nil)), ?_⟩
    have no : firstNo [d, .none] = some 0 := first_0 bd.nt
    refine ⟨_, rfl, v, .non, d, .none, [], [], [], rfl, ⟨hv, .non, bd.s2, trivial, fun z => (by rw [no] at z; cases z), by decide, by decide, fun _ hl => (by cases hl), fun _ hl => (by cases hl)⟩, tabs, fun z => (by rw [no] at z; cases z), fun z => (by rw [no] at z; cases z), fun m z => (by rw [no] at z; cases z), fun k hk dd H' s e => ?_⟩
    rw [no] at hk
    cases hk
    exact q dd H' s e
theorem lam_2 {C R : Addr} {T : List (Addr × Str)} (C_heard_for_sure : Cx_ P w K mg base "heard_for_sure" ["lots", "heard"] 9 (spSure K C R T heardF)) : LmC P w K mg base 9 qLW (lPrm lam2) (lBod lam2) (lSc lam2) [] ["bad"] (spBT K C T) where
  kind := rfl
  co := rfl
  gen := rfl
  noc := by decide +kernel
  loc := by decide +kernel
  fre := by decide +kernel
  nd := by decide +kernel
  len := fun cvs vs H Q E h => by
    obtain ⟨_, _, _, rfl, _⟩ := h
    rfl
  bind := fun us cl pm cv ct h => by
    match us, h with
    | [], _ => rfl
  run := fun cvs f c cl A outer s H vs Q E hr _ h => by
    obtain ⟨v, d, rfl, rfl, hv, bd, tabs, q⟩ := h
    refine ⟨_, pe_useX C_heard_for_sure hr (fun σ => passAt (takes_of rfl rfl rfl rfl) σ) rfl (pa_cons (pv 0) (pa_cons (pe_tup pa_nil) pa_nil)), ?_⟩
    have no : firstNo [d, .tuple []] = some 0 := first_0 bd.nt
    refine ⟨_, rfl, by show 0 ≤ sizeLine; decide, fun t ht => ?_⟩
    have s1 := same_new ht (.tup [])
    refine ⟨v, .ref t, d, .tuple [], [], [], [], rfl, ⟨dp_same s1 hv, .tup (SqT.of upd_same) .nil, bd.s2, ⟨by decide, fun _ hl => (by cases hl)⟩, fun z => (by rw [no] at z; cases z), by decide, by decide, fun _ hl => (by cases hl), fun _ hl => (by cases hl)⟩, tabs_same tabs s1, fun z => (by rw [no] at z; cases z), fun z => (by rw [no] at z; cases z), fun m z => (by rw [no] at z; cases z), fun k hk dd H' s e => ?_⟩
    rw [no] at hk
    cases hk
    exact q dd H' (s1.trans s) e
theorem lam_3 {C : Addr} {T : List (Addr × Str)} (C_alike_silences : Cx_ P w K mg base "alike_silences" ["lots", "one", "other"] 5 (spAlike K C)) : LmC P w K mg base 9 qLW (lPrm lam3) (lBod lam3) (lSc lam3) [] ["bad"] (spBT K C T) where
  kind := rfl
  co := rfl
  gen := rfl
  noc := by decide +kernel
  loc := by decide +kernel
  fre := by decide +kernel
  nd := by decide +kernel
  len := fun cvs vs H Q E h => by
    obtain ⟨_, _, _, rfl, _⟩ := h
    rfl
  bind := fun us cl pm cv ct h => by
    match us, h with
    | [], _ => rfl
  run := fun cvs f c cl A outer s H vs Q E hr _ h => by
    obtain ⟨v, d, rfl, rfl, hv, bd, tabs, q⟩ := h
    refine ⟨_, pe_useX C_alike_silences (hr.mono (by decide)) (fun σ => passAt (takes_of rfl rfl rfl rfl) σ) rfl (pa_cons (pv 0) (pa_cons pe_non (pa_cons pe_non pa_nil))), ?_⟩
    have no := first1_0 bd.nt
    refine ⟨_, rfl, v, .non, .non, d, .none, .none, [], rfl, ⟨hv, bd.s2, fun z => (by rw [no] at z; cases z)⟩, by decide, fun _ hl => (by cases hl), fun _ hl => (by cases hl), .non, fun _ => trivial, .non, fun _ => trivial, fun k hk dd H' s e => ?_, fun z => (by rw [no] at z; cases z), fun z => (by rw [no] at z; cases z), fun _ _ _ _ _ _ z => (by rw [no] at z; cases z)⟩
    rw [no] at hk
    cases hk
    exact q dd H' s e
end
end K6

namespace K6
open PySem PySem.Spec PyProof.Rows L2 Hb St Sq Ow En Zp RZ Rd Xb Da Lg LamX Ty Lc Cq Cn
def nmC (x : Str) : Bool := decide (0 < x.length) && (decide (x.length ≤ 8) && x.cps.toList.all fun c => decide (97 ≤ c) && decide (c < 123))
theorem nm_by {x : Str} (h : nmC x = true) : IsNm x := by
  unfold nmC at h
  simp only [Bool.and_eq_true, decide_eq_true_eq, List.all_eq_true] at h
  exact ⟨h.1, h.2.1, fun c hc => h.2.2 c hc⟩
theorem nsok_by {ns : List Str} (h : (decide ns.Nodup && (!ns.isEmpty && (decide (ns.length ≤ 4) && ns.all nmC))) = true) : NsOk ns := by
  simp only [Bool.and_eq_true, decide_eq_true_eq, Bool.not_eq_true', List.all_eq_true] at h
  obtain ⟨h1, h2, h3, h4⟩ := h
  exact ⟨h1, (by intro z; rw [z] at h2; cases h2), h3, fun x hx => nm_by (h4 x hx)⟩
theorem log_le {m : Nat} (h : m ≤ 1000) : ((m : Nat) : Int).natAbs.log2 < 1920 := by
  rw [Int.natAbs_natCast]
  by_cases c : m = 0
  · rw [c]; decide
  · exact Nat.lt_trans ((Nat.log2_lt c).mpr (show m < 2 ^ 10 by omega)) (by decide)
section
variable {P : Program} {w : World} {K : PySem.W.Frag} {mg : Str → Option Value} {base : Heap}
/-- what stands in the law once its tales are drawn -/
structure LWd (T : List (Addr × Str)) (p l nb a : Addr) (nms : List Str) (its : List V) (ls : List LotT) (H : Hp) : Prop where
  hd : DealAt H p l
  tb : Tabs T H
  en : H nb = some (.tup (nms.map V.str))
  ea : H a = some (.lst its)
  al : All2 (LotH H) its ls
  na : a ≠ p ∧ a ≠ l
theorem LWd.kp {T : List (Addr × Str)} {p l nb a : Addr} {nms : List Str} {its : List V} {ls : List LotT} {H H' : Hp} (w : LWd T p l nb a nms its ls H) (k : KpX p l H H') (hd' : DealAt H' p l) (t' : Tabs T H') : LWd T p l nb a nms its ls H' :=
  ⟨hd', t', k _ _ w.en (w.hd.ne_tup w.en).1 (w.hd.ne_tup w.en).2 notbl, k _ _ w.ea w.na.1 w.na.2 notbl_l, w.al.imp fun _ _ r => LotH.kp r w.hd k, w.na⟩
theorem LWd.same {T : List (Addr × Str)} {p l nb a : Addr} {nms : List Str} {its : List V} {ls : List LotT} {H H' : Hp} (w : LWd T p l nb a nms its ls H) (s : Same H H') : LWd T p l nb a nms its ls H' := w.kp (.same s) (w.hd.same s) (tabs_same w.tb s)
theorem LWd.two {T : List (Addr × Str)} {p l nb a : Addr} {nms : List Str} {its : List V} {ls : List LotT} {H H' : Hp} (w : LWd T p l nb a nms its ls H) (k : Kept2 p l H H') (hd' : DealAt H' p l) : LWd T p l nb a nms its ls H' := w.kp (.two k) hd' (tabs_two w.tb w.hd k)
theorem LWd.ext {T : List (Addr × Str)} {p l nb a : Addr} {nms : List Str} {its : List V} {ls : List LotT} {H H' : Hp} (w : LWd T p l nb a nms its ls H) (x : ExtN H H') (t' : Tabs T H') : LWd T p l nb a nms its ls H' := w.kp (.ext x) (deal_ext w.hd x) t'
def COb (cells : List (Str × Addr)) (lam : Expr) (ci fi : Addr) : HO := CloO qLW (lPrm lam) (lBod lam) (lSc lam) (cloFrom cells (lSc lam).names []) ci fi
theorem tabs_lst {T : List (Addr × Str)} {H : Hp} {wp : Addr} {xs : List V} {o : HO} (t : Tabs T H) (e : H wp = some (.lst xs)) : Tabs T (upd H wp o) := fun y hy => by
  obtain ⟨ps, h1, h2, h3⟩ := t y hy
  refine ⟨ps, ?_, h2, fun pos cv hc => ?_⟩
  · rw [upd_ne fun z => by rw [z, e] at h1; cases h1]; exact h1
  · obtain ⟨cc, ev, e3⟩ := h3 pos cv hc
    exact ⟨cc, ev, by rw [upd_ne fun z => by rw [z, e] at e3; cases e3]; exact e3⟩
/-- the list of what is asked, so far -/
structure WS (T : List (Addr × Str)) (cells : List (Str × Addr)) (G : Hp) (wp : Addr) (fs : List (Expr × Addr × Addr)) (H : Hp) : Prop where
  x : ExtN G H
  tb : Tabs T H
  ew : H wp = some (.lst (fs.map fun z => V.ref z.2.2))
  nw : ∀ u, G wp = some u → ∃ ps, u = .tbl ps
  cl : ∀ z ∈ fs, H z.2.2 = some (COb cells z.1 z.2.1 z.2.2) ∧ H z.2.1 = some (CodeO z.2.1 qLW)
theorem ext_upd {G H : Hp} {wp : Addr} {o : HO} (x : ExtN G H) (n : ∀ u, G wp = some u → ∃ ps, u = .tbl ps) : ExtN G (upd H wp o) := fun b u e t => by
  rw [upd_ne fun z => by rw [z] at e; obtain ⟨ps, h⟩ := n u e; exact t ps h]; exact x b u e t
theorem WS.app {T : List (Addr × Str)} {cells : List (Str × Addr)} {G H H1 : Hp} {wp f1 c1 : Addr} {lam : Expr} {fs : List (Expr × Addr × Addr)} (w : WS T cells G wp fs H) (x1 : ExtN H H1) (t1 : Tabs T H1) (n1 : H1 f1 = none) (e1 : H1 c1 = some (CodeO c1 qLW)) :
    WS T cells G wp (fs ++ [(lam, c1, f1)]) (upd (upd H1 f1 (COb cells lam c1 f1)) wp (.lst ((fs.map fun z => V.ref z.2.2) ++ [.ref f1]))) := by
  have ew1 := x1 _ _ w.ew notbl_l
  have s1 := same_new n1 (COb cells lam c1 f1)
  have ew2 := s1 _ _ ew1
  have kx : ∀ {b : Addr} {φ : Heap → Prop}, upd H1 f1 (COb cells lam c1 f1) b = some (.ext φ) → upd (upd H1 f1 (COb cells lam c1 f1)) wp (.lst ((fs.map fun z => V.ref z.2.2) ++ [.ref f1])) b = some (.ext φ) := fun {b φ} e => by
    rw [upd_ne fun z => by rw [z, ew2] at e; cases e]; exact e
  refine ⟨ext_upd (fun b o e n => s1 _ _ (x1 _ _ (w.x _ _ e n) n)) w.nw, tabs_lst (tabs_same t1 s1) ew2, by rw [upd_same, List.map_append]; rfl, w.nw, fun z hz => ?_⟩
  rcases List.mem_append.mp hz with h | h
  · obtain ⟨h1, h2⟩ := w.cl z h
    exact ⟨kx (s1 _ _ (x1 _ _ h1 fun ps y => nomatch y)), kx (s1 _ _ (x1 _ _ h2 fun ps y => nomatch y))⟩
  · rw [List.mem_singleton.mp h]
    exact ⟨kx upd_same, kx (s1 _ _ e1)⟩
def spLaw (K : PySem.W.Frag) (T : List (Addr × Str)) : Sp := fun vs H Q _ => ∃ (a : Addr) (ns : List Int), vs = [.ref a] ∧ SqL K H a (ns.map V.int) ∧ ns.length ≤ 63 ∧ Tabs T H ∧ ∀ H', Q (.bl true) H'
theorem ok_law {f c Pt C R fC fR g : Addr} {T : List (Addr × Str)} {fdg : FuncData} {oc : Value} {od an : Option Addr} {osl : Array (Option Value)} {kV doc pm ct : Value}
    (lk : K.lookup f = some ⟨oc, od, .func (PySem.W.fnOf "law" "law" (defArgs s_law) (defBody s_law) (defScope s_law) .none kV doc pm an (.ref c) ct), osl⟩) (cd : PySem.W.codeIn K (.ref c) "law" = true) (TB : TabB base mg c Pt)
    (inT : (Pt, qLW) ∈ T) (one : ∀ y ∈ T, y.1 = Pt → y.2 = qLW)
    (Fg : Fun K "_law_told" "_law_told" s__law_told g fdg) (bg0 : Binds K fdg ["work"] []) (mtold : mg "_law_told" = some (.ref g)) (TH : ErrC K mg "InvalidHeard" C fC) (TR : ErrC K mg "Refused" R fR) (eRC : PySem.W.exmOne K (.ref R) (.ref C) = some false)
    (C__law_alike_right : Cl P w K mg base "_law_alike_right" ["heap", "lots"] [] 12 (spAlikeR T)) (C__law_draw : Cl P w K mg base "_law_draw" ["heap", "many"] [] 1 spDraw) (C__law_heap : Cl P w K mg base "_law_heap" ["script", "base"] [] 1 (spDeal K)) (C__law_less : Cl P w K mg base "_law_less" ["heap", "lots"] [] 3 (spLess K)) (C__law_pick : Cl P w K mg base "_law_pick" ["heap", "some"] [] 2 (spPick K)) (C__law_silences : Cl P w K mg base "_law_silences" ["lots"] [] 1 (spLSil K w)) (C__law_sure_right : Cl P w K mg base "_law_sure_right" ["lots", "heard"] [] 12 (spSureR T)) (C__law_tale : Cl P w K mg base "_law_tale" ["heap", "names", "most"] [] 3 spTale)
    (C_heard_tales : Cx_ P w K mg base "heard_tales" ["lots"] 5 (spHear K C)) (C_silent_for_sure : Cx_ P w K mg base "silent_for_sure" ["lots", "heard"] 9 (spSure K C R T silentF)) (C_heard_for_sure : Cx_ P w K mg base "heard_for_sure" ["lots", "heard"] 9 (spSure K C R T heardF)) (C_alike_silences : Cx_ P w K mg base "alike_silences" ["lots", "one", "other"] 5 (spAlike K C))
    (C_told : Ho P w K mg base CX0 "_law_told" ["work"] 11 (spToV P w K mg 10 C R)) (n_len : mg "len" = none) (n_repr : mg "repr" = none) (n_tuple : mg "tuple" = none) :
    FnOk P w K mg base CX0 14 f (PySem.W.fnOf "law" "law" (defArgs s_law) (defBody s_law) (defScope s_law) .none kV doc pm an (.ref c) ct) ["script"] (spLaw K T) := by
  obtain ⟨⟨ocg, odg, kVg, docg, pmg, ang, cdvg, ctg, oslg, rfl, lkg, cdg'⟩, kpg⟩ := Fg
  have bg := bg0
  refine okC lk cd sc_law (fun vs H Q E h => ?_) (fun A outer s H vs Q E hr h => ?_)
  · obtain ⟨_, _, rfl, _⟩ := h
    rfl
  · obtain ⟨a0, ns, rfl, h0, l0, tabs, q⟩ := h
    refine ⟨_, (pss_cons (ps_set (i := 1) sc_law.nd rfl (Or.inl rfl) (pe_use C__law_heap (hr.mono (by decide)) rfl (pa_cons (pv 0) (pa_cons pe_int pa_nil))))
    (pss_cons (ps_set (i := 2) sc_law.nd rfl (Or.inl rfl) (pe_use C__law_pick (hr.mono (by decide)) rfl (pa_cons (pv 1) (pa_cons (pe_lst (pa_cons (pe_tup (pa_cons pe_str (pa_cons pe_str (pa_cons pe_str pa_nil)))) (pa_cons (pe_tup (pa_cons pe_str (pa_cons pe_str pa_nil))) (pa_cons (pe_tup (pa_cons pe_str (pa_cons pe_str (pa_cons pe_str (pa_cons pe_str pa_nil))))) (pa_cons (pe_tup (pa_cons pe_str (pa_cons pe_str (pa_cons pe_str pa_nil)))) pa_nil))))) pa_nil))))
    (pss_cons (ps_set (i := 9) sc_law.nd rfl (Or.inr rfl) (pe_use C__law_tale (hr.mono (by decide)) rfl (pa_cons (pv 1) (pa_cons (pv 2) (pa_cons pe_int pa_nil)))))
    (Evl.pss_cut (ps_set (i := 3) sc_law.nd rfl (Or.inl rfl) (pe_ifExp (pt_cmpR op_gt (pe_use C__law_draw (hr.mono (by decide)) rfl (pa_cons (pv 1) (pa_cons pe_int pa_nil))) pe_int (nomark _)) (pe_use C__law_less (hr.mono (by decide)) rfl (pa_cons (pv 1) (pa_cons (pv 9) pa_nil))) (pe_use C__law_tale (hr.mono (by decide)) rfl (pa_cons (pv 1) (pa_cons (pv 2) (pa_cons pe_int pa_nil))))))
    (Evl.pss_cut (ps_if (PW.pt (pw_or (pt_not (pt_val (pe_use C__law_sure_right (hr.mono (by decide)) rfl (pa_cons (pv 9) (pa_cons (pv 3) pa_nil))))) (pw_or1 (pt_not (pt_val (pe_use C__law_alike_right (hr.mono (by decide)) rfl (pa_cons (pv 1) (pa_cons (pv 9) pa_nil)))))))) (pss_one (ps_ret pe_bl)) pss_nil)
    (pss_cons (ps_par (i := 4) (j := 5) (by rfl) sc_law.nd rfl rfl (by decide) rfl rfl (pa_cons (pe_lst pa_nil) (pa_cons pe_int pa_nil)) (by rfl))
    (Evl.pss_cut (ps_for PassesOwn.never rfl (pi_seq (pe_use C__law_tale (hr.mono (by decide)) rfl (pa_cons (pv 1) (pa_cons (pv 2) (pa_cons pe_int pa_nil))))) (pg_name (i := 6) sc_law.nd rfl (Or.inl rfl))
      (pss_cons (ps_aug (i := 5) sc_law.nd rfl (Or.inl rfl) (pe_callB call_len_seq (by rfl) n_len PySem.boot_len (pa_cons (pv 6) pa_nil)) ip_add)
    (pss_one (ps_set (i := 4) sc_law.nd rfl (Or.inl rfl) (pe_op op_cat (pv 4) (pe_ifExp (pt_cmpR op_le (pv 5) pe_int (nomark _)) (pe_lst (pa_cons (pv 6) pa_nil)) (pe_lst pa_nil)))))))
    (Evl.pss_cut (ps_if (pt_cmpR op_ne (pe_callB cr_reprN (by rfl) n_repr (by decide +kernel) (pa_cons (pe_useX C_heard_tales (hr.mono (by decide)) (fun σ => passAt L2.takes0 σ) rfl (pa_cons (pe_callTy call_tuple_of (by rfl) n_tuple (by decide +kernel) (pa_cons (pv 4) pa_nil)) pa_nil)) pa_nil)) (pe_callB cr_reprN (by rfl) n_repr (by decide +kernel) (pa_cons (pe_use C__law_silences (hr.mono (by decide)) rfl (pa_cons (pv 4) pa_nil)) pa_nil)) (nomark _)) (pss_one (ps_ret pe_bl)) pss_nil)
    (pss_cons (ps_set (i := 8) sc_law.nd rfl (Or.inr rfl) (pe_use C__law_pick (hr.mono (by decide)) rfl (pa_cons (pv 1) (pa_cons (pe_lst (pa_cons pe_non (pa_cons pe_str (pa_cons (pe_tup (pa_cons (pe_tup (pa_cons pe_str (pa_cons pe_str pa_nil))) pa_nil)) (pa_cons (pe_tup (pa_cons (pe_tup (pa_cons pe_str pa_nil)) (pa_cons (pe_tup pa_nil) pa_nil))) (pa_cons pe_int (pa_cons (pe_lst (pa_cons (pe_tup (pa_cons pe_str pa_nil)) pa_nil)) pa_nil))))))) pa_nil))))
    (pss_cons (ps_set (i := 7) sc_law.nd rfl (Or.inl rfl) (pe_lst (pa_cons (pe_clo (T := T) TB rfl inT one rfl frL0) pa_nil)))
    (pss_cons (ps_expr (pe_bm PySem.F.plainAttrs_list PySem.F.slot_list_append PySem.F.type_list_append mt_append (pv 7) (pa_cons (pe_clo (T := T) TB rfl inT one rfl frL1) pa_nil)))
    (pss_cons (ps_expr (pe_bm PySem.F.plainAttrs_list PySem.F.slot_list_append PySem.F.type_list_append mt_append (pv 7) (pa_cons (pe_clo (T := T) TB rfl inT one rfl frL2) pa_nil)))
    (pss_cons (ps_expr (pe_bm PySem.F.plainAttrs_list PySem.F.slot_list_append PySem.F.type_list_append mt_append (pv 7) (pa_cons (pe_clo (T := T) TB rfl inT one rfl frL3) pa_nil)))
    (Evl.pss_cut (ps_if (pt_cmpR (op_neD hr.units) (pe_lcN (own := [("work", 10)]) (g := gName 10) rfl sc_law.nd (pi_seq (pv 7)) (blkOk_by (N := ["script", "heap", "names", "heard", "short", "many", "lot", "works", "bad", "lots", "work"]) (sc := defScope s_law) (by decide +kernel)) (fun _ _ _ _ _ => pg_name (i := 10) sc_law.nd rfl (Or.inl rfl)) (fun _ _ _ _ _ _ _ I hf => pts_one (pt_cmpR (r := rNeD K) (op_neD hr.units) (pe_hoB C_told I hf (fun _ => rfl) (hr.mono (by decide)) rfl (pa_cons (pv 10) pa_nil)) (pe_lst (pa_cons pe_str (pa_cons pe_int pa_nil))) (nomark _)))) (pe_lst pa_nil) (nomark _)) (pss_one (ps_ret pe_bl)) pss_nil)
    (pss_one (ps_ret (pe_cmpR (op_eqD hr.units) (pe_lamcall (T := T) (t := fun E => tCallS (spSure K C R T heardF) (fun _ => E) (tCons (tCB (rTupE K) (tCons (tVar 9) tNil)) (tCons (tVar 8) tNil))) (TT := TTold2 K C R) (k := 9) (a := "work") (Ng := ["work", "wrong"]) rfl mtold kpg lkg cdg' bg sc__law_told rfl (.inl rfl) (told2 TH TR eRC) TB rfl inT one (hr.mono (by decide)) (lamS_by rfl) rfl (fun _ _ _ _ _ => rfl) (fun A outer s H E f c' hr2 => pe_useX C_heard_for_sure hr2 (fun σ => passAt (takes_of rfl rfl rfl rfl) σ) rfl (pa_cons (pe_callTy (T := "tuple") (r := rTupE K) call_tupE (by rfl) n_tuple (by decide +kernel) (pa_cons (pv 9) pa_nil)) (pa_cons (pv 8) pa_nil)))) (pe_lst (pa_cons pe_str (pa_cons pe_int pa_nil))) (nomark _)))))))))))))))))), ?_⟩
    refine ⟨_, rfl, a0, ns, rfl, h0, l0, fun p l H1 kp kl s1 hd1 => ?_⟩
    have t1' := tabs_same tabs s1
    refine ⟨_, rfl, by show 3 ≤ sizeLine; decide, fun t1 k1 => ⟨by show 2 ≤ sizeLine; decide, fun t2 k2 => ⟨by show 4 ≤ sizeLine; decide, fun t3 k3 => ⟨by show 3 ≤ sizeLine; decide, fun t4 k4 => ⟨by show 4 ≤ sizeLine; decide, fun tl ktl => ?_⟩⟩⟩⟩⟩
    obtain ⟨H2, eH2⟩ : ∃ H2, H2 = upd (upd (upd (upd (upd H1 t1 (.tup [V.str "x", V.str "y", V.str "z"])) t2 (.tup [V.str "x", V.str "y"])) t3 (.tup [V.str "x", V.str "y", V.str "z", V.str "u"])) t4 (.tup [V.str "ab", V.str "b", V.str "ba"])) tl (.lst [.ref t1, .ref t2, .ref t3, .ref t4]) := ⟨_, rfl⟩
    have e4 := same_new ktl (.lst [V.ref t1, .ref t2, .ref t3, .ref t4])
    have e3 := (same_new k4 (.tup [V.str "ab", V.str "b", V.str "ba"])).trans e4
    have e2 := (same_new k3 (.tup [V.str "x", V.str "y", V.str "z", V.str "u"])).trans e3
    have e1 := (same_new k2 (.tup [V.str "x", V.str "y"])).trans e2
    have s12 : Same H1 H2 := by rw [eH2]; exact (same_new k1 _).trans e1
    have etl : H2 tl = some (.lst [.ref t1, .ref t2, .ref t3, .ref t4]) := by rw [eH2, upd_same]
    have nm4 : ∀ x ∈ [V.ref t1, V.ref t2, V.ref t3, V.ref t4], ∃ nb nms, x = .ref nb ∧ H2 nb = some (.tup (nms.map V.str)) ∧ NsOk nms ∧ ∀ x ∈ nms, x ≠ "none" := by
      intro x hx
      simp only [List.mem_cons, List.not_mem_nil, or_false] at hx
      rcases hx with rfl | rfl | rfl | rfl
      · exact ⟨t1, ["x", "y", "z"], rfl, by rw [eH2]; exact e1 _ _ upd_same, nsok_by rfl, by decide⟩
      · exact ⟨t2, ["x", "y"], rfl, by rw [eH2]; exact e2 _ _ upd_same, nsok_by rfl, by decide⟩
      · exact ⟨t3, ["x", "y", "z", "u"], rfl, by rw [eH2]; exact e3 _ _ upd_same, nsok_by rfl, by decide⟩
      · exact ⟨t4, ["ab", "b", "ba"], rfl, by rw [eH2]; exact e4 _ _ upd_same, nsok_by rfl, by decide⟩
    have hd2 := hd1.same s12
    have tl1 : tl ≠ p ∧ tl ≠ l := by
      have hd4 : DealAt (upd (upd (upd (upd H1 t1 (.tup [V.str "x", V.str "y", V.str "z"])) t2 (.tup [V.str "x", V.str "y"])) t3 (.tup [V.str "x", V.str "y", V.str "z", V.str "u"])) t4 (.tup [V.str "ab", V.str "b", V.str "ba"])) p l := hd1.same ((((same_new k1 _).trans (same_new k2 _)).trans (same_new k3 _)).trans (same_new k4 _))
      exact hd4.ne_none ktl
    have t2' := tabs_same t1' s12
    rw [← eH2]
    refine ⟨p, l, tl, _, rfl, hd2, fun H' k => SqX.lst (k _ _ etl tl1.1 tl1.2), ⟨by show 1 ≤ 4; decide, by show 4 ≤ 1000; decide⟩, fun x H3 hx k3 hd3 => ?_⟩
    obtain ⟨nb, nms, rfl, enb, nok, nno⟩ := nm4 x hx
    obtain ⟨nb1, nb2⟩ := hd2.ne_tup enb
    have enb3 := k3 _ _ enb nb1 nb2
    have t3' := tabs_two t2' hd2 k3
    clear nm4 eH2 etl tl1 s12 hd2 enb k3 e1 e2 e3 e4
    refine ⟨_, rfl, _, rfl, p, l, nb, 6, nms, rfl, hd3, enb3, ⟨by decide, by decide⟩, nok, fun a its ls H4 ka k4 hd4 ea al okl ll => ?_⟩
    have a12 := hd3.ne_none ka
    obtain ⟨a1, a2⟩ := hd3.ne_none ka
    have enb4 := k4 _ _ enb3 nb1 nb2
    have t4' := tabs_two t3' hd3 k4
    have ll7 : ls.length ≤ 7 := by omega
    let St : Addr → L2.St → Prop := fun b σ => σ = [some (.ref a0), some (.ref p), some (.ref nb), some (.ref b), none, none, none, none, none, some (.ref a), none]
    refine ⟨fun σ H' => ∃ b jts hs, St b σ ∧ Kept2 p l H4 H' ∧ DealAt H' p l ∧ (b ≠ p ∧ b ≠ l) ∧ H' b = some (.lst jts) ∧ All2 (LotH H') jts hs ∧ (∀ x ∈ hs, LotOk nms x) ∧ hs.length ≤ 8, ?_, ?_⟩
    · refine ⟨_, rfl, p, l, 6, rfl, by decide, hd4, fun d H5 d0 d1 k5 hd5 => ⟨_, _, rfl, rfl, _, rfl, ?_⟩⟩
      have ea5 := k5 _ _ ea a1 a2
      have al5 := al.imp fun _ _ t => LotH.kp t hd4 (.two k5)
      have enb5 := k5 _ _ enb4 nb1 nb2
      refine iteD (fun _ => ?_) fun _ => ?_
      · refine ⟨_, rfl, _, rfl, p, l, a, its, ls, nms, rfl, hd5, ea5, ⟨a1, a2⟩, al5, okl, ll7, nok, fun b jts hs H6 kb k6 hd6 eb bl okh lh => ?_⟩
        exact ⟨b, jts, hs, rfl, k5.trans k6, hd6, hd5.ne_none kb, eb, bl, okh, lh⟩
      · refine ⟨_, rfl, _, rfl, p, l, nb, 3, nms, rfl, hd5, enb5, ⟨by decide, by decide⟩, nok, fun b jts hs H6 kb k6 hd6 eb bl okh lh => ?_⟩
        exact ⟨b, jts, hs, rfl, k5.trans k6, hd6, hd5.ne_none kb, eb, bl, okh, by omega⟩
    rintro σ H5 ⟨b, jts, hs, rfl, k5, hd5, ⟨b1, b2⟩, eb, bl, okh, lh⟩
    have ea5 := k5 _ _ ea a1 a2
    have al5 := al.imp fun _ _ t => LotH.kp t hd4 (.two k5)
    have enb5 := k5 _ _ enb4 nb1 nb2
    have t5' := tabs_two t4' hd4 k5
    have w5 : LWd T p l nb a nms its ls H5 := ⟨hd5, t5', enb5, ea5, al5, a12⟩
    clear t5' enb5 ea5 al5 t4' enb4 t3' enb3 t2' t1' hd4 hd3 ea al k5 k4 ka
    let σ5 : L2.St := [some (.ref a0), some (.ref p), some (.ref nb), some (.ref b), none, none, none, none, none, some (.ref a), none]
    refine ⟨fun σ H' => σ = σ5 ∧ LWd T p l nb a nms its ls H', ?_, ?_⟩
    · refine ⟨_, rfl, _, rfl, a, b, its, jts, ls, hs, nms, rfl, w5.ea, w5.al, eb, bl, nok, okl, okh, ll7, lh, w5.tb, fun H6 x6 t6 => ⟨_, rfl, ?_⟩⟩
      have w6 := w5.ext x6 t6
      refine ⟨_, rfl, _, rfl, p, l, a, its, ls, nms, rfl, w6.hd, w6.ea, w6.al, nok, nno, okl, ll7, w6.tb, w6.na, fun H7 k7 hd7 t7 => ⟨_, rfl, ?_⟩⟩
      exact ⟨rfl, w6.kp k7 hd7 t7⟩
    rintro σ H7 ⟨rfl, w7⟩
    refine ⟨by show 0 ≤ sizeLine; decide, fun s0 ks0 => ?_⟩
    have s8 := same_new ks0 (.lst [])
    have e8 : upd H7 s0 (.lst []) s0 = some (.lst []) := upd_same
    have w8 := w7.same s8
    have ns0 := w7.hd.ne_none ks0
    generalize upd H7 s0 (.lst []) = H8 at s8 e8 w8 ⊢
    dsimp only [tNil]
    refine ⟨_, _, rfl, ?_⟩
    let S6 : Addr → Int → Option V → L2.St := fun sp m o6 => [some (.ref a0), some (.ref p), some (.ref nb), some (.ref b), some (.ref sp), some (.int m), o6, none, none, some (.ref a), none]
    refine ⟨fun σ H' => ∃ sp m o6 sits ss, σ = S6 sp m o6 ∧ LWd T p l nb a nms its ls H' ∧ H' sp = some (.lst sits) ∧ All2 (LotH H') sits ss ∧ (∀ x ∈ ss, LotOk nms x) ∧ ss.length ≤ 5 ∧ (ss.map (·.length)).sum ≤ 8, ?_, ?_⟩
    · refine ⟨_, rfl, _, rfl, p, l, nb, 5, nms, rfl, w8.hd, w8.en, ⟨by decide, by decide⟩, nok, fun tb tits ts H9 kt k9 hd9 et tal okt lt => ?_⟩
      have w9 := w8.two k9 hd9
      have e9 := k9 _ _ e8 ns0.1 ns0.2
      refine ⟨tb, tits, rfl, SqX.lst et, fun J S W z0 => ?_⟩
      refine for_sq W (fun j σ H' => ∃ (sp : Addr) (m : Nat) (o6 : Option V) (sits : List V) (ss : List LotT), σ = S6 sp (m : Nat) o6 ∧ Same H9 H' ∧ H' sp = some (.lst sits) ∧ All2 (LotH H') sits ss ∧ (∀ x ∈ ss, LotOk nms x) ∧ ss.length ≤ j ∧ (ss.map (·.length)).sum ≤ 8 ∧ (ss.map (·.length)).sum ≤ m)
        ⟨s0, 0, none, [], [], rfl, Same.refl _, e9, .nil, fun _ h => (by cases h), Nat.le_refl _, by decide, by decide⟩ (fun j σ H' pv => W.keep (fun o e => let ⟨_, _, _, _, _, _, s, _⟩ := pv; s _ _ e) z0) ?_ ?_
      · rintro j σ H10 y ey ⟨sp, m, o6, sits, ss, rfl, s10, es, als, oks, lj, l8, lm⟩
        obtain ⟨lot, elot, lb, rfl, hlb⟩ := tal.get ey
        have hlb10 := s10 _ _ hlb
        have oklot := okt lot (at_mem elot)
        refine ⟨_, rfl, _, rfl, lb, _, rfl, .inr (SqT.of hlb10), _, _, rfl, rfl, ?_⟩
        have lots := als.len
        have hj5 := (List.getElem?_eq_some_iff.mp elot).1
        have em : (((m : Nat) : Int) + (((lot.map V.str).length : Nat) : Int)) = ((m + lot.length : Nat) : Int) := by rw [List.length_map]; omega
        have lotH10 : LotH H10 (.ref lb) lot := ⟨lb, rfl, hlb10⟩
        refine ⟨_, rfl, _, rfl, _, _, rfl, rfl, _, rfl, iteD (fun c => ?_) fun c => ?_⟩
        · have c : (((m : Nat) : Int) + (((lot.map V.str).length : Nat) : Int)) ≤ 8 := c
          rw [em] at c
          refine ⟨_, rfl, by show 1 ≤ sizeLine; decide, fun l1 hl1 => ?_⟩
          have s11 := same_new hl1 (.lst [V.ref lb])
          refine ⟨sp, l1, sits, [.ref lb], rfl, rfl, s11 _ _ es, upd_same, by rw [lots, sizeLine_eq]; show _ + 1 ≤ _; omega, fun q1 kq1 => ?_⟩
          have s12 := s11.trans (same_new kq1 (.lst (sits ++ [V.ref lb])))
          refine ⟨q1, m + lot.length, some (.ref lb), _, ss ++ [lot], ?_, s10.trans s12, upd_same, (als.imp fun _ _ r => r.on (.same s12)).app (.cons (lotH10.on (.same s12)) .nil), fun x hx => ?_, by rw [List.length_append]; show _ + 1 ≤ _; omega, ?_, ?_⟩
          · rw [← em]
            rfl
          · rcases List.mem_append.mp hx with h | h
            · exact oks x h
            · rw [List.mem_singleton.mp h]; exact oklot
          · rw [List.map_append, List.sum_append]
            show _ + (lot.length + 0) ≤ 8
            omega
          · rw [List.map_append, List.sum_append]
            show _ + (lot.length + 0) ≤ _
            omega
        · refine ⟨by show 0 ≤ sizeLine; decide, fun l1 hl1 => ?_⟩
          have s11 := same_new hl1 (.lst [])
          refine ⟨sp, l1, sits, [], rfl, rfl, s11 _ _ es, upd_same, by rw [lots, sizeLine_eq]; show _ + 0 ≤ _; omega, fun q1 kq1 => ?_⟩
          have s12 := s11.trans (same_new kq1 (.lst (sits ++ [])))
          refine ⟨q1, m + lot.length, some (.ref lb), _, ss, ?_, s10.trans s12, upd_same, ?_, oks, by omega, l8, by omega⟩
          · rw [← em]
            rfl
          · have z : All2 (LotH (upd (upd H10 l1 (HO.lst [])) q1 (HO.lst (sits ++ [])))) sits ss := als.imp fun _ _ r => r.on (.same s12)
            rw [List.append_nil] at z ⊢
            exact z
      · rintro σ H10 ⟨sp, m, o6, sits, ss, rfl, s10, es, als, oks, lj, l8, lm⟩
        rw [tal.len] at lj
        exact ⟨sp, _, _, sits, ss, rfl, w9.same s10, es, als, oks, by omega, l8⟩
    rintro σ H9 ⟨sp, m, o6, sits, ss, rfl, w9, es, als, oks, l5, l8⟩
    have r256 : (runF ss).2 ≤ 1000 := by
      have := sil_small l8 ss.length
      rw [List.take_length, sil_run] at this
      omega
    have ss8 : ∀ x ∈ ss, x.length ≤ 8 := fun x hx => Nat.le_trans (len_sum hx) l8
    have no1 := no_first1 (tale_D nok oks)
    refine ⟨fun σ H' => σ = S6 sp m o6 ∧ LWd T p l nb a nms its ls H', ?_, ?_⟩
    · refine ⟨_, rfl, sp, _, rfl, .inl ⟨SqL.of es, fun tq htq => ?_⟩⟩
      have s10 := same_new htq (.tup sits)
      have e10 : upd H9 tq (.tup sits) tq = some (.tup sits) := upd_same
      have w10 := w9.same s10
      have als10 := als.imp fun _ _ r => LotH.on r (.same s10)
      have es10 := s10 _ _ es
      generalize upd H9 tq (.tup sits) = H10 at s10 e10 w10 als10 es10 ⊢
      refine ⟨.ref tq, tD ss, ss, rfl, ⟨tale_dp e10 als10, tale_sm nok oks (by omega), fun _ => ⟨tq, rfl, sits, e10, als10.imp fun _ _ r => lotH_S r⟩⟩, by omega, ss8, fun _ H11 s11 => ?_, fun k hk => (by rw [no1] at hk; cases hk)⟩
      refine ⟨some (((runF ss).2 : Nat) : Int), rfl, fun k hk => by cases hk; exact log_le r256, ?_⟩
      refine ⟨_, rfl, sp, ss, rfl, ⟨sits, s11 _ _ es10, als10.imp fun _ _ r => lotH_S (r.on (.same s11))⟩, by omega, l8, fun x hx y hy => nok.nm y ((oks x hx).2.2 y hy), fun H12 s12 => ?_⟩
      rw [sil_run]
      refine ⟨some (((runF ss).2 : Nat) : Int), rfl, fun k hk => by cases hk; exact log_le r256, rfl, _, rfl, ?_⟩
      rw [show ∀ z : V, (!decide (z = z)) = false from fun z => by rw [decide_eq_true rfl]; rfl]
      exact iteF ⟨rfl, w10.same (s11.trans s12)⟩
    rintro σ H10 ⟨rfl, w10⟩
    refine ⟨_, rfl, ?_⟩
    refine ⟨by show 2 ≤ sizeLine; decide, fun t1 h1 => ?_⟩
    have g1 := same_new h1 (.tup [V.str (Str.ofString "y"), .str (Str.ofString "x")])
    have b1 : upd H10 t1 (.tup [V.str (Str.ofString "y"), .str (Str.ofString "x")]) t1 = some (.tup [V.str (Str.ofString "y"), .str (Str.ofString "x")]) := upd_same
    generalize upd H10 t1 (.tup [V.str (Str.ofString "y"), .str (Str.ofString "x")]) = G1 at g1 b1 ⊢
    refine ⟨by show 1 ≤ sizeLine; decide, fun t2 h2 => ?_⟩
    have g2 := same_new h2 (.tup [V.ref t1])
    have b2 : upd G1 t2 (.tup [V.ref t1]) t2 = some (.tup [V.ref t1]) := upd_same
    generalize upd G1 t2 (.tup [V.ref t1]) = G2 at g2 b2 ⊢
    refine ⟨by show 1 ≤ sizeLine; decide, fun t3 h3 => ?_⟩
    have g3 := same_new h3 (.tup [V.str (Str.ofString "x")])
    have b3 : upd G2 t3 (.tup [V.str (Str.ofString "x")]) t3 = some (.tup [V.str (Str.ofString "x")]) := upd_same
    generalize upd G2 t3 (.tup [V.str (Str.ofString "x")]) = G3 at g3 b3 ⊢
    refine ⟨by show 0 ≤ sizeLine; decide, fun t4 h4 => ?_⟩
    have g4 := same_new h4 (.tup [])
    have b4 : upd G3 t4 (.tup []) t4 = some (.tup []) := upd_same
    generalize upd G3 t4 (.tup []) = G4 at g4 b4 ⊢
    refine ⟨by show 2 ≤ sizeLine; decide, fun t5 h5 => ?_⟩
    have g5 := same_new h5 (.tup [V.ref t3, V.ref t4])
    have b5 : upd G4 t5 (.tup [V.ref t3, V.ref t4]) t5 = some (.tup [V.ref t3, V.ref t4]) := upd_same
    generalize upd G4 t5 (.tup [V.ref t3, V.ref t4]) = G5 at g5 b5 ⊢
    refine ⟨by show 1 ≤ sizeLine; decide, fun t6 h6 => ?_⟩
    have g6 := same_new h6 (.tup [V.str (Str.ofString "x")])
    have b6 : upd G5 t6 (.tup [V.str (Str.ofString "x")]) t6 = some (.tup [V.str (Str.ofString "x")]) := upd_same
    generalize upd G5 t6 (.tup [V.str (Str.ofString "x")]) = G6 at g6 b6 ⊢
    refine ⟨by show 1 ≤ sizeLine; decide, fun t7 h7 => ?_⟩
    have g16 := ((((g1.trans g2).trans g3).trans g4).trans g5).trans g6
    have n7 := (w10.same g16).hd.ne_none h7
    have g7 := same_new h7 (.lst [V.ref t6])
    have b7 : upd G6 t7 (.lst [V.ref t6]) t7 = some (.lst [V.ref t6]) := upd_same
    generalize upd G6 t7 (.lst [V.ref t6]) = G7 at g7 b7 ⊢
    have w17 := (w10.same g16).same g7
    let bads : List V := [.non, .str (Str.ofString "x"), .ref t2, .ref t5, .int 3, .ref t7]
    have bd : ∀ v ∈ bads, ∃ d, Nd K p l G7 v d ∧ BadT d := fun v hv => by
      have hd7 := w17.hd
      have g27 := ((((g2.trans g3).trans g4).trans g5).trans g6).trans g7
      have g37 := (((g3.trans g4).trans g5).trans g6).trans g7
      have g47 := ((g4.trans g5).trans g6).trans g7
      have g57 := (g5.trans g6).trans g7
      have g67 := g6.trans g7
      simp only [bads, List.mem_cons, List.not_mem_nil, or_false] at hv
      rcases hv with rfl | rfl | rfl | rfl | rfl | rfl
      · exact ⟨_, nd_non, bad_by (by decide +kernel)⟩
      · exact ⟨_, nd_str _, bad_by (by decide +kernel)⟩
      · exact ⟨_, .tup (g37 _ _ b2) hd7 (.cons (.tup (g27 _ _ b1) hd7 (.cons (nd_str _) (.cons (nd_str _) .nil))) .nil), bad_by (by decide +kernel)⟩
      · exact ⟨_, .tup (g67 _ _ b5) hd7 (.cons (.tup (g47 _ _ b3) hd7 (.cons (nd_str _) .nil)) (.cons (.tup (g57 _ _ b4) hd7 .nil) .nil)), bad_by (by decide +kernel)⟩
      · exact ⟨_, nd_int _, bad_by (by decide +kernel)⟩
      · exact ⟨_, .lst b7 n7.1 n7.2 (.cons (.tup (g7 _ _ b6) hd7 (.cons (nd_str _) .nil)) .nil), bad_by (by decide +kernel)⟩
    refine ⟨by show 6 ≤ sizeLine; decide, fun bp hbp => ?_⟩
    have g8 := same_new hbp (.lst bads)
    have ebp : upd G7 bp (.lst bads) bp = some (.lst bads) := upd_same
    have nbp := w17.hd.ne_none hbp
    have w18 := w17.same g8
    have bd8 : ∀ v ∈ bads, ∃ d, Nd K p l (upd G7 bp (.lst bads)) v d ∧ BadT d := fun v hv => let ⟨d, h1, h2⟩ := bd v hv; ⟨d, h1.on (.same g8), h2⟩
    generalize upd G7 bp (.lst bads) = G8 at g8 ebp w18 bd8 ⊢
    dsimp only [tNil]
    refine ⟨p, l, bp, bads, rfl, w18.hd, fun H' k => SqX.lst (k _ _ ebp nbp.1 nbp.2), ⟨by show 1 ≤ 6; decide, by show 6 ≤ 1000; decide⟩, fun bad G9 hbad k9 hd9 => ?_⟩
    obtain ⟨bdd, ndb, bt⟩ := bd8 bad hbad
    have w19 := w18.two k9 hd9
    have nd9 := ndb.on (.two k9)
    clear bd8 bd hbad ndb ebp nbp w18 w17 k9 hd9 g8 g7 g16 n7 b1 b2 b3 b4 b5 b6 b7 w10 hbp h1 h2 h3 h4 h5 h6 h7 g1 g2 g3 g4 g5 g6
    let cells := (envOfC "law" (defScope s_law) s.heap.objs.size f (.ref c)).cells
    refine ⟨w19.tb, fun f0 c0 H10 x10 t10 n10 e10 => ?_⟩
    have s11 := same_new n10 (COb cells lam0 c0 f0)
    refine ⟨by show 1 ≤ sizeLine; decide, fun wp hwp => ?_⟩
    have ws1 : WS T cells G9 wp [(lam0, c0, f0)] (upd (upd H10 f0 (COb cells lam0 c0 f0)) wp (.lst [.ref f0])) := by
      have s12 := same_new hwp (.lst [V.ref f0])
      refine ⟨fun b o e n => s12 _ _ (s11 _ _ (x10 _ _ e n)), tabs_same (tabs_same t10 s11) s12, upd_same, ?_, fun z hz => ?_⟩
      · intro u hu
        refine Classical.byContradiction fun c => ?_
        have := s11 _ _ (x10 _ _ hu fun ps z => c ⟨ps, z⟩)
        exact absurd rfl (ne_of_none this hwp)
      · rw [List.mem_singleton.mp hz]
        exact ⟨s12 _ _ upd_same, s12 _ _ (s11 _ _ e10)⟩
    dsimp only [tNil]
    refine ⟨_, rfl, .inl ⟨rfl, _, SqL.of ws1.ew⟩, ws1.tb, fun f1 c1 H11 x11 t11 n11 e11 => ?_⟩
    have ws2 := ws1.app (lam := lam1) x11 t11 n11 e11
    refine ⟨wp, [.ref f0], .ref f1, rfl, rfl, same_new n11 _ _ _ (x11 _ _ ws1.ew notbl_l), by show 1 < sizeLine; decide, ?_⟩
    refine ⟨_, rfl, .inl ⟨rfl, _, SqL.of ws2.ew⟩, ws2.tb, fun f2 c2 H12 x12 t12 n12 e12 => ?_⟩
    have ws3 := ws2.app (lam := lam2) x12 t12 n12 e12
    refine ⟨wp, [.ref f0, .ref f1], .ref f2, rfl, rfl, same_new n12 _ _ _ (x12 _ _ ws2.ew notbl_l), by show 2 < sizeLine; decide, ?_⟩
    refine ⟨_, rfl, .inl ⟨rfl, _, SqL.of ws3.ew⟩, ws3.tb, fun f3 c3 H13 x13 t13 n13 e13 => ?_⟩
    have ws4 := ws3.app (lam := lam3) x13 t13 n13 e13
    refine ⟨wp, [.ref f0, .ref f1, .ref f2], .ref f3, rfl, rfl, same_new n13 _ _ _ (x13 _ _ ws3.ew notbl_l), by show 3 < sizeLine; decide, ?_⟩
    generalize hG : upd (upd H13 f3 (CloO _ _ _ _ _ c3 f3)) wp (HO.lst ([V.ref f0, V.ref f1, V.ref f2] ++ [V.ref f3])) = H14
    replace ws4 : WS T cells G9 wp [(lam0, c0, f0), (lam1, c1, f1), (lam2, c2, f2), (lam3, c3, f3)] H14 := by rw [← hG]; exact ws4
    clear ws1 ws2 ws3 hG
    let fs : List (Expr × Addr × Addr) := [(lam0, c0, f0), (lam1, c1, f1), (lam2, c2, f2), (lam3, c3, f3)]
    let σ9 : L2.St := [some (.ref a0), some (.ref p), some (.ref nb), some (.ref b), some (.ref sp), some (.int m), o6, some (.ref wp), some bad, some (.ref a), none]
    have key : ∀ z ∈ fs, ∀ bb, LeB K mg base bb → CelB (cxOf CX0 P w K mg base ["script", "heap", "names", "heard", "short", "many", "lot", "works", "bad", "lots", "work"] "law" (defScope s_law) f (.ref c) A outer s H E).nox σ9 bb → ∀ H', Same H14 H' → CallV P w K mg bb 10 (spBT K C T [bad]) H' z.2.2 := by
      intro z hz bb le cel H' s'
      obtain ⟨h1, h2⟩ := ws4.cl z hz
      have h1 := s' _ _ h1
      have h2 := s' _ _ h2
      simp only [fs, List.mem_cons, List.not_mem_nil, or_false] at hz
      rcases hz with rfl | rfl | rfl | rfl
      · exact CallV.clo (P := P) (w := w) (K := K) (mg := mg) (lv := 10) (lam_0 (Cx_.up C_heard_tales le)) (Cels.of (cvs := [bad]) (caps := ["bad"]) cel (sc := lSc lam0) frL0 (by decide +kernel) rfl (fun i x y e1 e2 => by
          match i, e1, e2 with
          | 0, e1, e2 => cases e1; cases e2; exact ⟨8, rfl, rfl⟩)) h1 h2 (by decide)
      · exact CallV.clo (P := P) (w := w) (K := K) (mg := mg) (lv := 10) (lam_1 (Cx_.up C_silent_for_sure le)) (Cels.of (cvs := [bad]) (caps := ["bad"]) cel (sc := lSc lam1) frL1 (by decide +kernel) rfl (fun i x y e1 e2 => by
          match i, e1, e2 with
          | 0, e1, e2 => cases e1; cases e2; exact ⟨8, rfl, rfl⟩)) h1 h2 (by decide)
      · exact CallV.clo (P := P) (w := w) (K := K) (mg := mg) (lv := 10) (lam_2 (Cx_.up C_heard_for_sure le)) (Cels.of (cvs := [bad]) (caps := ["bad"]) cel (sc := lSc lam2) frL2 (by decide +kernel) rfl (fun i x y e1 e2 => by
          match i, e1, e2 with
          | 0, e1, e2 => cases e1; cases e2; exact ⟨8, rfl, rfl⟩)) h1 h2 (by decide)
      · exact CallV.clo (P := P) (w := w) (K := K) (mg := mg) (lv := 10) (lam_3 (Cx_.up C_alike_silences le)) (Cels.of (cvs := [bad]) (caps := ["bad"]) cel (sc := lSc lam3) frL3 (by decide +kernel) rfl (fun i x y e1 e2 => by
          match i, e1, e2 with
          | 0, e1, e2 => cases e1; cases e2; exact ⟨8, rfl, rfl⟩)) h1 h2 (by decide)
    refine ⟨fun σ H' => σ = σ9 ∧ Same H14 H', ?_, ?_⟩
    · refine ⟨_, rfl, wp, _, rfl, SqX.lst ws4.ew, fun J S W z0 D hD => ?_⟩
      have sHD := same_new hD (.lst [])
      refine ⟨4, fun i H' => Same (upd H14 D (.lst [])) H' ∧ i ≤ 4, ⟨Same.refl _, by decide⟩, fun i H' ⟨sD, hi⟩ => ?_⟩
      have sA := sHD.trans sD
      have st : S H' := W.keep (fun o e => sA _ _ e) z0
      by_cases c4 : i = 4
      · subst c4
        refine .inl ⟨W.stop H' st, ?_⟩
        refine ⟨by show 0 ≤ sizeLine; decide, fun t0 k0 => ?_⟩
        have s16 := same_new k0 (.lst [])
        refine ⟨.list [], .list [], .lst (SqL.of (s16 _ _ (sD _ _ upd_same))) .nil, .lst (SqL.of upd_same) .nil, by decide, by decide, _, rfl, ?_⟩
        exact iteF ⟨rfl, sA.trans s16⟩
      · refine .inr ⟨by omega, W.go i H' (by show i < 4; omega) st, fun x H'' y => ?_⟩
        obtain ⟨rfl, ex⟩ := W.yld i H' x H'' (by show i < 4; omega) st y
        obtain ⟨z, hz, rfl⟩ : ∃ z ∈ fs, x = V.ref z.2.2 := by
          obtain ⟨z, hz, e⟩ := List.mem_map.mp (List.mem_of_getElem? ex)
          exact ⟨z, hz, e.symm⟩
        refine ⟨rfl, _, rfl, fun bb le cel => ?_⟩
        have cv := key z hz bb le cel _ sA
        refine ⟨z.2.2, z.2.1, qLW, spBT K C T [bad], rfl, sA _ _ (ws4.cl z hz).2, cv, bad, bdd, rfl, rfl, nd9 _ (.ext fun b o e n => sA _ _ (ws4.x _ _ e n)), bt, tabs_same ws4.tb sA, fun dd H5 s5 e5 => ⟨dd, 0, rfl, e5, .inl ⟨rfl, fun t H6 s6 e6 => ?_⟩⟩⟩
        refine ⟨by show 2 ≤ sizeLine; decide, fun t2 h2 => ?_⟩
        have s7 := same_new h2 (.lst [V.str (Str.ofString "heard"), .int 0])
        refine ⟨_, _, dp_ref2 (s7 _ _ e6), dp_ref2 upd_same, heard_sh 0, heard_sh 0, _, rfl, ?_⟩
        exact ⟨by rw [sh_refl (heard_sh 0)]; rfl, sD.trans ((s5.trans s6).trans s7), by omega⟩
    rintro σ H15 ⟨rfl, s15⟩
    have x15 : ExtN G9 H15 := fun b o e n => s15 _ _ (ws4.x _ _ e n)
    have t15 := tabs_same ws4.tb s15
    refine ⟨t15, fun H16 x16 t16 => ?_⟩
    have x916 : ExtN G9 H16 := fun b o e n => x16 _ _ (x15 _ _ e n) n
    have w16 := w19.ext x916 t16
    refine ⟨_, rfl, a, its, rfl, .inl ⟨SqL.of w16.ea, fun tq htq => ⟨_, rfl, ?_⟩⟩⟩
    have s17 := same_new htq (.tup its)
    have e17 : upd H16 tq (.tup its) tq = some (.tup its) := upd_same
    have w17 := w16.same s17
    have nd17 := nd9 (upd H16 tq (.tup its)) (.ext fun b o e n => s17 _ _ (x916 _ _ e n))
    generalize upd H16 tq (.tup its) = H17 at s17 e17 w17 nd17 ⊢
    dsimp only [tNil]
    have no : firstNo [tD ls, bdd] = some 1 := first_1 (tale_D nok okl) bt.nt
    refine ⟨.ref tq, bad, tD ls, bdd, ls, [], nms, rfl, ⟨tale_dp e17 w17.al, nd17, tale_sm nok okl (by omega), bt.s2, fun z => (by rw [no] at z; cases z), by omega, by decide, fun _ hl => (by cases hl), fun l hl => by have := lot_len nok (okl l hl); omega⟩, w17.tb, fun z => (by rw [no] at z; cases z), fun z => (by rw [no] at z; cases z), fun m z => (by rw [no] at z; cases z), fun k hk dd H18 s18 e18 => ?_⟩
    rw [no] at hk
    cases hk
    refine ⟨dd, 1, rfl, e18, .inl ⟨rfl, fun t H19 s19 e19 => ?_⟩⟩
    refine ⟨by show 2 ≤ sizeLine; decide, fun t2 h2 => ?_⟩
    have s20 := same_new h2 (.lst [V.str (Str.ofString "heard"), .int 1])
    refine ⟨_, _, dp_ref2 (s20 _ _ e19), dp_ref2 upd_same, heard_sh 1, heard_sh 1, ?_⟩
    rw [sh_refl (heard_sh 1)]
    exact q _
end
end K6

/-! promises of defs that are called while no repr is under way: the same calculus, one thing more known of what runs around -/
namespace Gu
open PySem PySem.Spec PyProof.Rows L2
abbrev Free (A : Around) : Prop := A.guards = some []
/-- the def at f keeps its promise wherever nothing is being shown -/
structure FnG (P : Program) (w : World) (K : PySem.W.Frag) (mg : Str → Option Value) (base : Heap) (CX : CXT) (k : Nat) (f : Addr) (fd : FuncData) (ps : List Str) (sp : Sp) : Prop where
  many : ∀ vs H Q E, sp vs H Q E → vs.length = ps.length
  go : ∀ (A : Around) (outer : List Env) (s : Shared) (H : Hp) (args : Args) (us : List Value) (vs : List V) (Q : VK) (E : XK), Room k A → Free A → Env0 P w K mg base A outer s H → BindsTo s fd args (ps.zip us) → Vals vs us → sp vs H Q E →
    codeAny (model P w) A (.call (.ref f) args) (CR CX outer P w H s Q E) s
section
variable {P : Program} {w : World} {K : PySem.W.Frag} {mg : Str → Option Value} {base : Heap} {CX : CXT}
/-- a promise that is kept anywhere -/
theorem FnG.of {k : Nat} {f : Addr} {fd : FuncData} {ps : List Str} {sp : Sp} (F : FnOk P w K mg base CX k f fd ps sp) : FnG P w K mg base CX k f fd ps sp := ⟨F.len, fun A o s H a us vs Q E r _ => F.run A o s H a us vs Q E r⟩
theorem deeper_free {A : Around} {env : Env} (h : Free A) : Free (A.deeper env) := h
theorem mk_go {k : Nat} {f : Addr} {name qual : Str} {params : Arguments} {body : List Stmt} {scope : Scope} {dV kV doc pm cdv ct oc : Value} {an od : Option Addr} {osl : Array (Option Value)} {N ps : List Str} {sp : Sp}
    (at_f : K.lookup f = some ⟨oc, od, .func (PySem.W.fnOf name qual params body scope dV kV doc pm an cdv ct), osl⟩) (code : PySem.W.codeIn K cdv qual = true) (S : FnScope N ps scope) (many : ∀ vs H Q E, sp vs H Q E → vs.length = ps.length)
    (inside : ∀ (A : Around) (outer : List Env) (s : Shared) (H : Hp) (vs : List V) (Q : VK) (E : XK), Room k (A.deeper (envOfC qual scope s.heap.objs.size f cdv)) → Free A → sp vs H Q E →
      ∃ t, PSs (cxOf CX P w K mg base N qual scope f cdv A outer s H E) body t ∧ t { nx := fun _ H' => Q .non H', rt := Q } (start N vs) H) :
    FnG P w K mg base CX (k + 1) f (PySem.W.fnOf name qual params body scope dV kV doc pm an cdv ct) ps sp where
  many := many
  go A outer s H args us vs Q E room free e0 binds rel hs := by
    have count := many _ _ _ _ hs
    have stays : ∀ b o, base.get? b = some o → s.heap.get? b = some o := fun b o e => (e0.bs b o e).1
    have inK : K.In s.heap := e0.mod.kin.keeps stays
    refine codeAny_call_function room.depth (inK _ _ at_f) rfl S.co S.gen rfl (PySem.W.codeRec_of inK code) (binds _ _ _ _ ?_)
    refine wpAny_newFunctionEnv_cells S.kind (fun y hy => (S.par y.1 (List.of_mem_zip hy).1).elim Or.inl fun c => .inr ⟨c, PySem.W.cellsFrom_some _ _ _ (.inl c)⟩) fun env made s1 x => ?_
    subst made
    refine ⟨(e0.mod.nolimit.keeps stays).keeps x.toInCall.keep, codeAny_func ?_⟩
    obtain ⟨t, run, rd⟩ := inside A outer s H vs Q E (room.deeper _) free hs
    have I0 := inv_start (CX := CX) (E := E) S room.hd e0 count rel x
    refine wpAny_mono (run.run [] s1 (start N vs) H _ I0 rd) (fun fl s' out => ?_) fun _ _ z => z
    rcases fl with _ | _ | _ | u
    · obtain ⟨_, H', J, q⟩ := out
      exact ⟨V.non, H', J.os, J.bare, J.base, J.hok, rfl, q⟩
    · exact out.elim fun _ z => z.elim fun _ y => False.elim y.2
    · exact out.elim fun _ z => z.elim fun _ y => False.elim y.2
    · obtain ⟨v, _, H', J, rv, q⟩ := out
      exact ⟨v, H', J.os, J.bare, J.base, J.hok, rv, q⟩
end
/-! ### calls -/
section
variable {X : Cx} {CX : CXT} {k : Nat} {f C : Addr} {fd : FuncData} {ps : List Str} {sp : Sp} {dvs : List V} {ds : List Value} {E : XK}
theorem go_call {pins : List (Addr × Obj)} {σ : L2.St} {H : Hp} {s : Shared} {Q : VK} {args : Args} {us : List Value} {vs : List V} (F : FnG X.prog X.w X.K X.mg X.base CX k f fd ps sp) (room : Room k X.A) (free : Free X.A) (hx : Passes CX X E)
    (I : Inv X pins σ H s) (b : BindsTo s fd args (ps.zip us)) (r : Vals vs us) (h : sp vs H Q E) : codeAny (model X.prog X.w) X.A (.call (.ref f) args) (fun r s' => match r with
      | .error e => X.xe e s'
      | .ok (.ret u) => EP X pins σ Q u s'
      | .ok _ => False) s := codeAny_mono (F.go X.A X.stack s H args us vs Q E room free I.env0 b r h) fun r s' out => by
  rcases r with e | fl
  · exact hx pins σ H s e s' I out
  · rcases fl with _ | _ | _ | u <;> first | exact I.after out | exact False.elim out
end
/-- a def of the text, by its promise -/
structure Cg (P : Program) (w : World) (K : PySem.W.Frag) (mg : Str → Option Value) (base : Heap) (CX : CXT) (x : Str) (ps : List Str) (dvs : List V) (lv : Nat) (sp : Sp) : Prop where
  ex : ∃ (f : Addr) (fd : FuncData) (ds : List Value), FnG P w K mg base CX lv f fd ps sp ∧ mg x = some (.ref f) ∧ PySem.W.keepIn K (.ref f) = true ∧ Binds K fd ps ds ∧ Vals dvs ds
section
variable {X : Cx} {CX : CXT} {ps : List Str} {dvs : List V} {lv : Nat} {sp : Sp} {x : Str} {p pos : Pos} {e : Expr} {es : List Expr} {t : TA} {E : XK}
theorem pe_gox (C : Cg X.prog X.w X.K X.mg X.base CX x ps dvs lv sp) (hr : Room lv X.A) (fr : Free X.A) (hx : Passes CX X E) (hg : Gl X x) (ha : PA X (e :: es) t) (hdb : (x == ("__debug__" : Str)) = false := by decide)
    (he : starEach (e :: es) X.env = (false, eval e X.env) :: starEach es X.env := by rfl) (hpl : (backTo pos (starEach es X.env)).any (·.1) = false := by rfl) : PE X (.Call (.Name x p) (e :: es) [] pos) (tCall sp dvs E t) := by
  obtain ⟨f, fd, ds, F, hm, hk, hb, hd⟩ := C.ex
  refine ⟨fun pins s σ H Q I h => wpAny_Call_Name_kw (ld_glob I hg hm ?_ hdb)⟩
  refine PySem.W.callWith_K (h₀ := X.base) I.ok.mod.kin hk (thn (ha.run pos pins s σ H _ I h) fun us s1 ⟨vs, H1, I1, r, q⟩ => ⟨I1.kIn, ?_⟩) he hpl
  have r2 := r.append hd
  refine wpAny_call (codeAny_mono (go_call F hr fr hx I1 (hb s1 us I1.kIn (by rw [← r2.length]; exact F.many _ _ _ _ q)) r2 q) fun r s' z => ?_)
  rcases r with _ | (_ | _ | _ | _) <;> first | exact z | exact z.elim
theorem pe_go (C : Cg X.prog X.w X.K X.mg X.base CX0 x ps dvs lv sp) (hr : Room lv X.A) (fr : Free X.A) (hg : Gl X x) (ha : PA X (e :: es) t) (hdb : (x == ("__debug__" : Str)) = false := by decide)
    (he : starEach (e :: es) X.env = (false, eval e X.env) :: starEach es X.env := by rfl) (hpl : (backTo pos (starEach es X.env)).any (·.1) = false := by rfl) : PE X (.Call (.Name x p) (e :: es) [] pos) (tCall sp dvs E0 t) :=
  pe_gox C hr fr pass0 hg ha hdb he hpl
end
/-! ### repr of data -/
def rRepr (K : PySem.W.Frag) : List V → Hp → VK → Prop := fun xs H Q => ∃ v d, xs = [v] ∧ Dp K H v d ∧ PyData.showable d = true ∧ PyData.hasDict d = false ∧ PyData.depth d < 40 ∧ (PyData.shown d).length ≤ sizeLine ∧ Q (.str (PyData.shown d)) H
theorem cr_repr {X : Cx} (fr : Free X.A) (hu : X.A.units + 64 < cLine) : CallR X (.builtin "repr") (rRepr X.K) := by
  intro pins s σ H xs us Q I r h
  obtain ⟨v, d, rfl, hd, hs, hn, hdp, hz, q⟩ := h
  obtain ⟨u, rfl, ru⟩ := vals1 r
  obtain ⟨as, rd⟩ := Dp.reads I d v u hd ru
  cases hd with
  | non =>
    cases (show u = Value.none from ru)
    exact P.repr_of_none ⟨.str _, H, I.tok _, ⟨_, rfl⟩, q⟩
  | bl b =>
    cases (show u = Value.bool b from ru)
    refine P.repr_of_bool ⟨.str _, H, I.tok _, ⟨_, rfl⟩, ?_⟩
    cases b <;> exact q
  | int i =>
    obtain ⟨t, rfl⟩ := (show ∃ t, u = Value.int i t from ru)
    exact P.repr_of_int (of_decide_eq_true hs) ⟨.str _, H, I.tok _, ⟨_, rfl⟩, q⟩
  | str x =>
    obtain ⟨t, rfl⟩ := (show ∃ t, u = Value.str x t from ru)
    exact P.repr_of_str ⟨.str _, H, I.tok _, ⟨_, rfl⟩, q⟩ hz
  | lst _ _ =>
    cases (show u = Value.ref _ from ru)
    exact repr_of_reads' rd hs (PyData.noDict_hsm hn) fr (by omega) (fun _ _ e => e) (fun h' t tk k => ⟨.str _, H, I.kept k, ⟨_, rfl⟩, q⟩) hz
  | tup _ _ =>
    cases (show u = Value.ref _ from ru)
    exact repr_of_reads' rd hs (PyData.noDict_hsm hn) fr (by omega) (fun _ _ e => e) (fun h' t tk k => ⟨.str _, H, I.kept k, ⟨_, rfl⟩, q⟩) hz
/-! ### the law's own call -/
section
variable {P : Program} {w : World} {K : PySem.W.Frag} {mg : Str → Option Value} {CX : CXT}
/-- from a heap H in which nothing but the script at a may be tracked -/
theorem law_from {mb : Str → Option Value} {k : Nat} {fa a : Addr} {fd : FuncData} {x : Str} {sp : Sp} {s : Shared} {vs : List Value} {H : Hp}
    (inK : K.In s.heap) (globs : s.heap.Ns mainGlobals mg) (blt : s.heap.Ns builtinsNs mb) (same : ∀ x : Str, x ≠ "__name__" → mb x = bootBuiltins x) (lim : s.heap.NoLimit) (bare : s.gens = #[])
    (obj : s.heap.get? a = some { cls := .type "list", data := .seq vs.toArray }) (room : Room k callerA) (F : ∀ base : Heap, K.In base → base.Ns mainGlobals mg → FnG P w K mg base CX k fa fd [x] sp) (bind : ∀ (s : Shared) (u : Value), BindsTo s fd ⟨[u], []⟩ [(x, u)])
    (none_else : ∀ b u, H b = some u → b = a ∧ (∃ o xs, u = .frz o (.lst xs)) ∧ K.lookup a = none) (ok : HOk P w H s.heap) (hsp : sp [.ref a] H (fun v _ => v = .bl true) fun _ _ _ => False)
    (hCX : ∀ e s', CX [] H s (fun _ _ _ => False) e s' → False) :
    codeAny (model P w) callerA (.call (.ref fa) ⟨[.ref a], []⟩) (fun r s' => r = .ok (.ret (.bool true)) ∧ OldK s.heap s'.heap ∧ s'.os = s.os ∧ AllBare s'.gens) s := by
  have free_of : ∀ b, b ≠ a → H b = none := fun b n => by
    rcases e : H b with _ | u
    · rfl
    · exact absurd (none_else b u e).1 n
  have low : ∀ {b o}, s.heap.get? b = some o → H b = none → (hidT s.heap H).get? b = some o := fun e n => hidT_get e n
  have dicts : ∀ {b : Addr} {m : Str → Option Value}, s.heap.Ns b m → (hidT s.heap H).Ns b m := fun {b m} ⟨o, es, ep, e, d, r⟩ => by
    refine ⟨o, es, ep, low e (free_of b fun z => ?_), d, r⟩
    rw [z, obj] at e
    cases e
    exact nomatch (show Data.seq vs.toArray _ = Data.dict es ep from d)
  have kin : K.In (hidT s.heap H) := fun b o e => low (inK b o e) (by
    rcases q : H b with _ | u
    · rfl
    · obtain ⟨rfl, _, z⟩ := none_else b u q
      rw [z] at e
      cases e)
  have modl : Mod K mg (hidT s.heap H) := ⟨kin, dicts globs, ⟨mb, dicts blt, same⟩, let ⟨mc, h1, h2⟩ := lim; ⟨mc, dicts h1, h2⟩⟩
  have env : Env0 P w K mg (hidT s.heap H) callerA [] s H := ⟨rfl, modl, fun b o e => of_hidT e, Nat.le_of_eq (hidT_size _ _), trivial, fun b hb => (nomatch hb), ok, .of_eq bare⟩
  refine codeAny_mono ((F _ kin (dicts globs)).go callerA [] s H ⟨[.ref a], []⟩ [.ref a] [.ref a] _ _ room rfl env (bind s (.ref a)) (.cons rfl .nil) hsp) fun r s' out => ?_
  rcases r with e | fl
  · exact (hCX e s' out).elim
  · rcases fl with _ | _ | _ | u <;> try exact False.elim out
    obtain ⟨v, H', os, b', un, ok', rv, hv⟩ := out
    obtain rfl : v = .bl true := hv
    obtain rfl : u = Value.bool true := rv
    refine ⟨rfl, OldK.of_keep fun b o e => ?_, os, b'⟩
    rcases q : H b with _ | z
    · exact un.keep b o e q (fun m => nomatch m) (by simp)
    · obtain ⟨_, ⟨o1, xs, rfl⟩, _⟩ := none_else b z q
      have z2 := un.frzs b o1 _ q
      have old := (ok b _ q).1
      rw [e] at old
      cases old
      exact (ok' b _ z2).1
theorem law_go {mb : Str → Option Value} {k : Nat} {fa a : Addr} {fd : FuncData} {x : Str} {sp : Sp} {s : Shared} {vs : List Value} {ns : List Int}
    (inK : K.In s.heap) (globs : s.heap.Ns mainGlobals mg) (blt : s.heap.Ns builtinsNs mb) (same : ∀ x : Str, x ≠ "__name__" → mb x = bootBuiltins x) (lim : s.heap.NoLimit) (bare : s.gens = #[])
    (obj : s.heap.get? a = some { cls := .type "list", data := .seq vs.toArray }) (ivs : IntsAre vs ns) (size : ns.length ≤ sizeLine) (room : Room k callerA) (F : ∀ base : Heap, K.In base → base.Ns mainGlobals mg → FnG P w K mg base CX k fa fd [x] sp) (bind : ∀ (s : Shared) (u : Value), BindsTo s fd ⟨[u], []⟩ [(x, u)])
    (hsp : ∀ H : Hp, SqL K H a (ns.map V.int) → sp [.ref a] H (fun v _ => v = .bl true) fun _ _ _ => False) (hCX : ∀ H e s', CX [] H s (fun _ _ _ => False) e s' → False) :
    codeAny (model P w) callerA (.call (.ref fa) ⟨[.ref a], []⟩) (fun r s' => r = .ok (.ret (.bool true)) ∧ OldK s.heap s'.heap ∧ s'.os = s.os ∧ AllBare s'.gens) s := by
  have rv := vals_ints ivs
  have cnt := ivs.length
  rcases own : K.lookup a with _ | o
  · refine law_from (H := fun b => if b = a then some (.frz { cls := .type "list", data := .seq vs.toArray } (.lst (ns.map V.int))) else none) inK globs blt same lim bare obj room F bind (fun b u e => ?_) (fun b u e => ?_)
      (hsp _ (.inl (.inr ⟨_, if_pos rfl⟩))) (fun e s' => hCX _ e s')
    · by_cases hb : b = a
      · rw [if_pos hb] at e
        exact ⟨hb, ⟨_, _, (Option.some.inj e).symm⟩, own⟩
      · rw [if_neg hb] at e
        cases e
    · by_cases hb : b = a
      · subst hb
        have e' := (if_pos rfl).symm.trans e
        cases e'
        exact ⟨obj, by rw [List.length_map]; exact size, vs, _, rv, obj⟩
      · have e' := (if_neg hb).symm.trans e
        cases e'
  · have w0 := inK a o own
    rw [obj] at w0
    cases w0
    exact law_from (H := fun _ => none) inK globs blt same lim bare obj room F bind (fun b u e => (nomatch e)) (fun b u e => (nomatch e))
      (hsp _ (.inr ⟨_, vs.toArray, _, own, rfl, rfl, rfl, by rw [List.size_toArray, cnt]; exact size, by simpa using rv⟩)) (fun e s' => hCX _ e s')
end
theorem walk_go {l : PySem.W.OpenLaw} {n k : Nat} {q : Program} {loose : List Str} {XP : (Str → Option Value) → Heap → Prop} {YP : World → Heap → Prop} {d : DefRec} {K : Params → PySem.W.Frag} {sp : World → Sp} {x : Str}
    (most : l.most = some n) (small : n ≤ sizeLine) (nodf : d.params.defaults = []) (room : Room k callerA) (hY : ∀ (w : World) (h : Heap), YP w h → (K w.params).In h)
    (F : ∀ (w : World) (mg : Str → Option Value) (fa : Addr) (h : Heap), (K w.params).In h → h.Ns mainGlobals mg → mg d.name = some (.ref fa) →
      ∃ fd : FuncData, (∀ (s : Shared) (u : Value), BindsTo s fd ⟨[u], []⟩ [(x, u)]) ∧ ∀ base : Heap, (K w.params).In base → base.Ns mainGlobals mg → FnG l.prog w (K w.params) mg base CX0 k fa fd [x] (sp w))
    (hsp : ∀ (w : World) (H : Hp) (a : Addr) (ns : List Int), ns.length ≤ n → SqL (K w.params) H a (ns.map V.int) → sp w [.ref a] H (fun v _ => v = .bl true) fun _ _ _ => False) :
    PySem.W.WalkO q loose XP YP l.row.toRowW d [] (fun f vs => PySem.call f vs) := by
  refine Att.attach_call most nodf fun w s₀ s₁ mg mb fa o pm cd doc a vs ns G Y _ _ _ named obj ivs len bare => ?_
  obtain ⟨fd, bind, FF⟩ := F w mg fa _ (hY w _ Y) G.T.g named
  exact law_go (hY w _ Y) G.T.g G.T.b G.T.builtins G.T.nolimit bare obj ivs (Nat.le_trans len small) room FF bind (fun H S => hsp w H a ns len S) fun H e s' z => z
end Gu

/-! the law's own call in the layer FnG, the tables of some defs known to be empty -/
namespace Gt
open PySem PySem.Spec PyProof.Rows L2 LamX Gu
section
variable {P : Program} {w : World} {K : PySem.W.Frag} {mg : Str → Option Value} {CX : CXT}
theorem from_tabs {mb : Str → Option Value} {k : Nat} {fa a : Addr} {cs : List (Addr × Addr)} {fd : FuncData} {x : Str} {sp : Sp} {s : Shared} {vs : List Value} {H : Hp}
    (inK : K.In s.heap) (globs : s.heap.Ns mainGlobals mg) (blt : s.heap.Ns builtinsNs mb) (same : ∀ x : Str, x ≠ "__name__" → mb x = bootBuiltins x) (lim : s.heap.NoLimit) (bare : s.gens = #[])
    (tabs : ∀ p ∈ cs, s.heap.get? p.2 = some { cls := .none, data := .fields #[] }) (out : ∀ p ∈ cs, K.lookup p.2 = none) (hd : ∀ p ∈ cs, PySem.W.codeHdIn K p.1 p.2 = true)
    (main : ∃ (bm : Addr) (ob : Obj), mg "__builtins__" = some (.ref bm) ∧ bm ≠ builtinsNs ∧ s.heap.get? bm = some ob ∧ ob.cls = .type "module" ∧ ob.dict = some builtinsNs ∧ ob.data = .plain)
    (obj : s.heap.get? a = some { cls := .type "list", data := .seq vs.toArray }) (room : Room k callerA)
    (F : ∀ base : Heap, K.In base → base.Ns mainGlobals mg → (∀ p ∈ cs, TabB base mg p.1 p.2) → FnG P w K mg base CX k fa fd [x] sp) (bind : ∀ (s : Shared) (u : Value), BindsTo s fd ⟨[u], []⟩ [(x, u)])
    (isT : ∀ p ∈ cs, H p.2 = some (.tbl #[])) (else_ : ∀ b u, H b = some u → (b = a ∧ (∃ o xs, u = .frz o (.lst xs)) ∧ K.lookup a = none) ∨ ∃ p ∈ cs, b = p.2) (ok : HOk P w H s.heap) (hsp : sp [.ref a] H (fun v _ => v = .bl true) fun _ _ _ => False)
    (hCX : ∀ e s', CX [] H s (fun _ _ _ => False) e s' → False) :
    codeAny (model P w) callerA (.call (.ref fa) ⟨[.ref a], []⟩) (fun r s' => r = .ok (.ret (.bool true)) ∧ OldK s.heap s'.heap ∧ s'.os = s.os ∧ AllBare s'.gens) s := by
  -- what is neither the script nor a table is free
  have low : ∀ {b o}, s.heap.get? b = some o → (∀ vs n, o.data ≠ .seq vs n) → o.data ≠ .fields #[] → (hidT s.heap H).get? b = some o := fun {b o} e n1 n2 => hidT_get e (by
    rcases q : H b with _ | u
    · rfl
    · rcases else_ b u q with ⟨rfl, _⟩ | ⟨p, m, rfl⟩
      · rw [obj] at e; cases e; exact absurd rfl (n1 _ _)
      · rw [tabs p m] at e; cases e; exact absurd rfl n2)
  have dicts : ∀ {b : Addr} {m : Str → Option Value}, s.heap.Ns b m → (hidT s.heap H).Ns b m := fun {b m} ⟨o, es, ep, e, d, r⟩ =>
    ⟨o, es, ep, low e (fun vs n z => by rw [d] at z; cases z) (fun z => by rw [d] at z; cases z), d, r⟩
  have kin : K.In (hidT s.heap H) := fun b o e => hidT_get (inK b o e) (by
    rcases q : H b with _ | u
    · rfl
    · rcases else_ b u q with ⟨rfl, _, z⟩ | ⟨p, m, rfl⟩
      · rw [z] at e; cases e
      · rw [out p m] at e; cases e)
  have modl : Mod K mg (hidT s.heap H) := ⟨kin, dicts globs, ⟨mb, dicts blt, same⟩, let ⟨mc, h1, h2⟩ := lim; ⟨mc, dicts h1, h2⟩⟩
  have tb : ∀ p ∈ cs, TabB (hidT s.heap H) mg p.1 p.2 := fun p m => by
    have nM : mainGlobals ≠ p.2 := fun z => by
      obtain ⟨o, es, ep, e, d, _⟩ := globs
      rw [z, tabs p m] at e
      cases e
      cases d
    refine NdefX.tabB_of_K kin (hd p m) ?_ nM
    obtain ⟨bm, ob, b1, b2, b3, b4, b5, b6⟩ := main
    refine ⟨bm, ob, b1, b2, fun q => ?_, fun q => ?_, low b3 (fun vs n z => by rw [b6] at z; cases z) (fun z => by rw [b6] at z; cases z), b4, b5, b6⟩
    · obtain ⟨o, es, ep, e, d, _⟩ := globs
      rw [← q, b3] at e
      cases e
      rw [d] at b6
      cases b6
    · rw [q, tabs p m] at b3
      cases b3
      cases b6
  have env : Env0 P w K mg (hidT s.heap H) callerA [] s H := ⟨rfl, modl, fun b o e => of_hidT e, Nat.le_of_eq (hidT_size _ _), trivial, fun b hb => (nomatch hb), ok, .of_eq bare⟩
  refine codeAny_mono ((F _ kin (dicts globs) tb).go callerA [] s H ⟨[.ref a], []⟩ [.ref a] [.ref a] _ _ room rfl env (bind s (.ref a)) (.cons rfl .nil) hsp) fun r s' fin => ?_
  rcases r with e | fl
  · exact (hCX e s' fin).elim
  · rcases fl with _ | _ | _ | u <;> try exact False.elim fin
    obtain ⟨v, H', os, b', un, ok', rv, hv⟩ := fin
    obtain rfl : v = .bl true := hv
    obtain rfl : u = Value.bool true := rv
    have grown : ∀ p ∈ cs, ∃ more : Array Value, s'.heap.get? p.2 = some { cls := .none, data := .fields more } := fun p m => by
      obtain ⟨more, z⟩ := un.tbls p.2 #[] (isT p m)
      exact ⟨_, ok' p.2 _ z⟩
    have stays : ∀ b o, (¬ ∃ p ∈ cs, b = p.2) → s.heap.get? b = some o → s'.heap.get? b = some o := fun b o n e => by
      rcases q : H b with _ | z
      · exact un.keep b o e q (fun m => nomatch m) (by simp)
      · rcases else_ b z q with ⟨_, ⟨o1, xs, rfl⟩, _⟩ | t
        · have z2 := un.frzs b o1 _ q
          have old := (ok b _ q).1
          rw [e] at old
          cases old
          exact (ok' b _ z2).1
        · exact absurd t n
    refine ⟨rfl, ⟨fun b o e => ?_, fun b o e => ?_⟩, os, b'⟩
    · rcases Classical.em (∃ p ∈ cs, b = p.2) with ⟨p, m, rfl⟩ | n
      · obtain ⟨more, hm⟩ := grown p m
        rw [tabs p m] at e
        cases e
        exact .inr (.inl ⟨((PySem.W.codeHd_of_K inK (hd p m)).tab (tabs p m)).isCodeTable, rfl, #[], more, rfl, by rw [Array.empty_append]; exact hm⟩)
      · exact .inl (stays b o n e)
    · rcases Classical.em (∃ p ∈ cs, b = p.2) with ⟨p, m, rfl⟩ | n
      · obtain ⟨more, hm⟩ := grown p m
        exact ⟨_, hm⟩
      · exact ⟨o, stays b o n e⟩
theorem law_tabs {mb : Str → Option Value} {k : Nat} {fa a : Addr} {cs : List (Addr × Addr)} {fd : FuncData} {x : Str} {sp : Sp} {s : Shared} {vs : List Value} {ns : List Int}
    (inK : K.In s.heap) (globs : s.heap.Ns mainGlobals mg) (blt : s.heap.Ns builtinsNs mb) (same : ∀ x : Str, x ≠ "__name__" → mb x = bootBuiltins x) (lim : s.heap.NoLimit) (bare : s.gens = #[])
    (tabs : ∀ p ∈ cs, s.heap.get? p.2 = some { cls := .none, data := .fields #[] }) (out : ∀ p ∈ cs, K.lookup p.2 = none) (hd : ∀ p ∈ cs, PySem.W.codeHdIn K p.1 p.2 = true)
    (main : ∃ (bm : Addr) (ob : Obj), mg "__builtins__" = some (.ref bm) ∧ bm ≠ builtinsNs ∧ s.heap.get? bm = some ob ∧ ob.cls = .type "module" ∧ ob.dict = some builtinsNs ∧ ob.data = .plain)
    (obj : s.heap.get? a = some { cls := .type "list", data := .seq vs.toArray }) (ivs : IntsAre vs ns) (size : ns.length ≤ sizeLine) (room : Room k callerA)
    (F : ∀ base : Heap, K.In base → base.Ns mainGlobals mg → (∀ p ∈ cs, TabB base mg p.1 p.2) → FnG P w K mg base CX k fa fd [x] sp) (bind : ∀ (s : Shared) (u : Value), BindsTo s fd ⟨[u], []⟩ [(x, u)])
    (hsp : ∀ H : Hp, (∀ p ∈ cs, H p.2 = some (.tbl #[])) → SqL K H a (ns.map V.int) → sp [.ref a] H (fun v _ => v = .bl true) fun _ _ _ => False) (hCX : ∀ H e s', CX [] H s (fun _ _ _ => False) e s' → False) :
    codeAny (model P w) callerA (.call (.ref fa) ⟨[.ref a], []⟩) (fun r s' => r = .ok (.ret (.bool true)) ∧ OldK s.heap s'.heap ∧ s'.os = s.os ∧ AllBare s'.gens) s := by
  have rv := vals_ints ivs
  have cnt := ivs.length
  have ne : ∀ p ∈ cs, p.2 ≠ a := fun p m z => by
    have e := tabs p m
    rw [z, obj] at e
    have e' : Data.seq vs.toArray _ = Data.fields #[] := congrArg Obj.data (Option.some.inj e)
    cases e'
  let T : Hp := fun b => if b ∈ cs.map (·.2) then some (.tbl #[]) else none
  have tAt : ∀ p ∈ cs, T p.2 = some (.tbl #[]) := fun p m => if_pos (List.mem_map.mpr ⟨p, m, rfl⟩)
  have tEl : ∀ b u, T b = some u → u = .tbl #[] ∧ ∃ p ∈ cs, b = p.2 := fun b u e => by
    by_cases h : b ∈ cs.map (·.2)
    · have e : (if b ∈ cs.map (·.2) then some (HO.tbl #[]) else none) = some u := e
      rw [if_pos h] at e
      obtain ⟨p, m, z⟩ := List.mem_map.mp h
      exact ⟨(Option.some.inj e).symm, p, m, z.symm⟩
    · have e : (if b ∈ cs.map (·.2) then some (HO.tbl #[]) else none) = some u := e
      rw [if_neg h] at e
      cases e
  have tOk : HOk P w T s.heap := fun b u e => by
    obtain ⟨rfl, p, m, rfl⟩ := tEl b u e
    exact tabs p m
  rcases own : K.lookup a with _ | o
  · let H : Hp := fun b => if b = a then some (.frz { cls := .type "list", data := .seq vs.toArray } (.lst (ns.map V.int))) else T b
    have hN : ∀ b, b ≠ a → H b = T b := fun b n => if_neg n
    have hA : H a = some (.frz { cls := .type "list", data := .seq vs.toArray } (.lst (ns.map V.int))) := if_pos rfl
    have hT : ∀ p ∈ cs, H p.2 = some (.tbl #[]) := fun p m => (hN _ (ne p m)).trans (tAt p m)
    refine from_tabs (H := H) inK globs blt same lim bare tabs out hd main obj room F bind hT (fun b u e => ?_) (fun b u e => ?_) (hsp H hT (.inl (.inr ⟨_, hA⟩))) (fun e s' => hCX _ e s')
    · by_cases hb : b = a
      · rw [hb, hA] at e
        exact .inl ⟨hb, ⟨_, _, (Option.some.inj e).symm⟩, own⟩
      · rw [hN b hb] at e
        exact .inr (tEl b u e).2
    · by_cases hb : b = a
      · subst hb
        rw [hA] at e
        cases e
        exact ⟨obj, by rw [List.length_map]; exact size, vs, _, rv, obj⟩
      · rw [hN b hb] at e
        obtain ⟨rfl, p, m, rfl⟩ := tEl b u e
        exact tabs p m
  · have w0 := inK a o own
    rw [obj] at w0
    cases w0
    exact from_tabs (H := T) inK globs blt same lim bare tabs out hd main obj room F bind tAt (fun b u e => .inr (tEl b u e).2) tOk
      (hsp T tAt (.inr ⟨_, vs.toArray, _, own, rfl, rfl, rfl, by rw [List.size_toArray, cnt]; exact size, by simpa using rv⟩)) (fun e s' => hCX _ e s')
end
/-- what the head gives of the law: cs, the code objects and their tables -/
def LawT (l : PySem.W.OpenLaw) (w : World) (K : PySem.W.Frag) (k n : Nat) (x : Str) (mg : Str → Option Value) (fa : Addr) (h : Heap) : Prop :=
  ∃ (fd : FuncData) (cs : List (Addr × Addr)) (sp : Sp), (∀ p ∈ cs, h.get? p.2 = some { cls := .none, data := .fields #[] }) ∧ (∀ p ∈ cs, K.lookup p.2 = none) ∧ (∀ p ∈ cs, PySem.W.codeHdIn K p.1 p.2 = true) ∧ (∀ (s : Shared) (u : Value), BindsTo s fd ⟨[u], []⟩ [(x, u)]) ∧
    (∀ (H : Hp) (a : Addr) (ns : List Int), ns.length ≤ n → (∀ p ∈ cs, H p.2 = some (.tbl #[])) → SqL K H a (ns.map V.int) → sp [.ref a] H (fun v _ => v = .bl true) fun _ _ _ => False) ∧
    ∀ base : Heap, K.In base → base.Ns mainGlobals mg → (∀ p ∈ cs, TabB base mg p.1 p.2) → FnG l.prog w K mg base CX0 k fa fd [x] sp
theorem walk_tabs {l : PySem.W.OpenLaw} {n k : Nat} {q : Program} {loose : List Str} {XP : (Str → Option Value) → Heap → Prop} {YP : World → Heap → Prop} {d : DefRec} {K : Params → PySem.W.Frag} {x : Str}
    (most : l.most = some n) (fits : n ≤ sizeLine) (plain : d.params.defaults = []) (room : Room k callerA) (kin : ∀ (w : World) (g : Heap), YP w g → (K w.params).In g)
    (F : ∀ (w : World) (mg : Str → Option Value) (fa : Addr) (g : Heap), YP w g → (K w.params).In g → g.Ns mainGlobals mg → mg d.name = some (.ref fa) → LawT l w (K w.params) k n x mg fa g) :
    PySem.W.WalkO q loose XP YP l.row.toRowW d [] (fun f vs => PySem.call f vs) := by
  refine Att.attach_callB most plain fun w t0 t1 mg mb fa ob pm cd doc ar vs ns Gd Yd _ _ _ nmf ob2 iz len bits gen => ?_
  have KX := kin w _ Yd
  obtain ⟨fd, cs, sp, T1, T2, T3, bnd, prom, fn⟩ := F w mg fa _ Yd KX Gd.T.g nmf
  exact law_tabs KX Gd.T.g Gd.T.b Gd.T.builtins Gd.T.nolimit gen T1 T2 T3 Gd.T.bmain ob2 iz (Nat.le_trans len fits) room fn bnd (fun H hH hS => prom H ar ns len hH hS) fun H e s' z => z
end Gt

namespace K6
open PySem PySem.Spec PyProof.Rows L2 Hb
/-- all parameters by name, in their order -/
theorem kb_fwd {K : PySem.W.Frag} {x qual : Str} {st : Stmt} {f : Addr} {fd : FuncData} {ps ks : List Str} (F : Fun K x qual st f fd)
    (h : ∀ (kV doc pm : Value) (an : Option Addr) (cdv ct : Value) (ws : List Value), ws.length = ks.length → bindArgs (PySem.W.fnOf x qual (defArgs st) (defBody st) (defScope st) .none kV doc pm an cdv ct) ⟨[], ks.zip ws⟩ = pure (ps.zip ws)) : KBn K fd ps 0 ks (fun _ ws => ws) (fun _ zs => zs) := by
  obtain ⟨oc, od, kV, doc, pm, an, cdv, ct, osl, rfl, lk, hcd⟩ := F.ex
  refine ⟨fun s us ws X l1 l2 => ?_, fun r1 r2 => r2⟩
  obtain rfl := List.eq_nil_of_length_eq_zero l1
  exact .of_eq (h kV doc pm an cdv ct ws l2)
end K6

namespace K6
open PySem PySem.Spec PyProof.Rows L2 Hb St Sq Ow En Zp RZ Rd Xb Da Lg LamX Ty Lc Cq Cn
theorem all_mk {l : PySem.W.OpenLaw} {w : World} {K : PySem.W.Frag} {h : Heap} {mg : Str → Option Value} {fa f_is_name f_is_integer f_is_count f_thin_lot f_is_part f_is_lot f_is_tale f_least_laying f_need_tales f_stuck_at f_need_laying f_first_laying f_last_laying f_may_lie f_silenced_tale f_parts_of f_event_lot f_events_of f_number_of_event f_events_where f_heard_tales f_alike_silences f__law_heap f__law_draw f__law_pick f__law_tale f__law_less f__law_layings f__law_events f__law_without f__law_silences f__law_told : Addr} (X : K.In h) (G : h.Ns mainGlobals mg) (hfa : mg "law" = some (.ref fa)) {B C R : Addr} {tkL : Tok} {N_c fI_c : Addr} {nm_c q_c : Str} {bs_c : List Value} {sn_c : List Str} {sub_c : List Value} {ab_c : Bool} {col_c : Option Bool} {dd_c : Option Addr} {m0_c m1_c m2_c m3_c m5_c : Option Value} {ocI_c dcI_c pmI_c cdI_c ctI_c : Value} {odI_c anI_c : Option Addr} {slI_c : Array (Option Value)} {N_r fI_r : Addr} {nm_r q_r : Str} {bs_r : List Value} {sn_r : List Str} {sub_r : List Value} {ab_r : Bool} {col_r : Option Bool} {dd_r : Option Addr} {m0_r m1_r m2_r m3_r m5_r : Option Value} {ocI_r dcI_r pmI_r cdI_r ctI_r : Value} {odI_r anI_r : Option Addr} {slI_r : Array (Option Value)} {g_SI c_SI P_SI : Addr} {odSI anSI ddSI : Option Addr} {slSI svSI : Array (Option Value)} {ocSI kVSI dcSI pmSI ctSI clSI : Value} {vsSI : Array Value} {g_HE c_HE P_HE : Addr} {odHE anHE ddHE : Option Addr} {slHE svHE : Array (Option Value)} {ocHE kVHE dcHE pmHE ctHE clHE : Value} {vsHE : Array Value} {g_SU c_SU P_SU : Addr} {odSU anSU ddSU : Option Addr} {slSU svSU : Array (Option Value)} {ocSU kVSU dcSU pmSU ctSU clSU : Value} {vsSU : Array Value} {g_AL c_AL P_AL : Addr} {odAL anAL ddAL : Option Addr} {slAL svAL : Array (Option Value)} {ocAL kVAL dcAL pmAL ctAL clAL : Value} {vsAL : Array Value} {g_LW c_LW P_LW : Addr} {odLW anLW ddLW : Option Addr} {slLW svLW : Array (Option Value)} {ocLW kVLW dcLW pmLW ctLW clLW : Value} {vsLW : Array Value}
    {od0 an0 od1 an1 od2 an2 od3 an3 od4 an4 od5 an5 od6 an6 od7 an7 od8 an8 od9 an9 od10 an10 od11 an11 od12 an12 od13 an13 od14 an14 od15 an15 od16 an16 od17 an17 od18 an18 od19 an19 od20 an20 od21 an21 od22 an22 od23 an23 od24 an24 od25 an25 od26 an26 od27 an27 od28 an28 od29 an29 od30 an30 od31 an31 : Option Addr} {sl0 sl1 sl2 sl3 sl4 sl5 sl6 sl7 sl8 sl9 sl10 sl11 sl12 sl13 sl14 sl15 sl16 sl17 sl18 sl19 sl20 sl21 sl22 sl23 sl24 sl25 sl26 sl27 sl28 sl29 sl30 sl31 : Array (Option Value)} {oc0 kV0 dc0 pm0 cd0 ct0 oc1 kV1 dc1 pm1 cd1 ct1 oc2 kV2 dc2 pm2 cd2 ct2 oc3 kV3 dc3 pm3 cd3 ct3 oc4 kV4 dc4 pm4 cd4 ct4 oc5 kV5 dc5 pm5 cd5 ct5 oc6 kV6 dc6 pm6 cd6 ct6 oc7 kV7 dc7 pm7 cd7 ct7 oc8 kV8 dc8 pm8 cd8 ct8 oc9 kV9 dc9 pm9 cd9 ct9 oc10 kV10 dc10 pm10 cd10 ct10 oc11 kV11 dc11 pm11 cd11 ct11 oc12 kV12 dc12 pm12 cd12 ct12 oc13 kV13 dc13 pm13 cd13 ct13 oc14 kV14 dc14 pm14 cd14 ct14 oc15 kV15 dc15 pm15 cd15 ct15 oc16 kV16 dc16 pm16 cd16 ct16 oc17 kV17 dc17 pm17 cd17 ct17 oc18 kV18 dc18 pm18 cd18 ct18 oc19 kV19 dc19 pm19 cd19 ct19 oc20 kV20 dc20 pm20 cd20 ct20 oc21 kV21 dc21 pm21 cd21 ct21 oc22 kV22 dc22 pm22 cd22 ct22 oc23 kV23 dc23 pm23 cd23 ct23 oc24 kV24 dc24 pm24 cd24 ct24 oc25 kV25 dc25 pm25 cd25 ct25 oc26 kV26 dc26 pm26 cd26 ct26 oc27 kV27 dc27 pm27 cd27 ct27 oc28 kV28 dc28 pm28 cd28 ct28 oc29 kV29 dc29 pm29 cd29 ct29 oc30 kV30 dc30 pm30 cd30 ct30 oc31 kV31 dc31 pm31 cd31 ct31 : Value}
    (aB : PySem.W.nsIn K mainGlobals "BellError" = some (some (.ref B)))
    (aC_c : PySem.W.nsIn K mainGlobals "InvalidHeard" = some (some (.ref C)))
    (xL_c : K.lookup C = some (PySem.excClassObj nm_c q_c C N_c bs_c [.ref B, .type "Exception", .type "BaseException", .type "object"] true sn_c sub_c ab_c col_c dd_c m0_c m1_c m2_c m3_c m5_c "Exception.__new__"))
    (sa_c : PySem.W.findIn K (.ref C) "__setattr__" = some (some (.builtin "object.__setattr__")))
    (ga_c : PySem.W.findIn K (.ref C) "__getattribute__" = some (some (.builtin "BaseException.__getattribute__")))
    (gg_c : PySem.W.findIn K (.ref C) "__getattr__" = some none)
    (nb_c : PySem.W.findIn K (.ref C) "at" = some none)
    (aI_c : PySem.W.findIn K (.ref C) "__init__" = some (some (.ref fI_c)))
    (tI_c : PySem.W.typeIn K (.ref fI_c) = some (.type "function"))
    (lI_c : K.lookup fI_c = some ⟨ocI_c, odI_c, .func (PySem.W.fnOf "__init__" "InvalidHeard.__init__" (Xb.iA ⟨6, 17, 6, 21⟩ ⟨6, 23, 6, 25⟩) (Xb.iB ⟨7, 8, 7, 12⟩ ⟨7, 8, 7, 15⟩ ⟨7, 18, 7, 20⟩ ⟨7, 8, 7, 20⟩) Xb.iS .none .none dcI_c pmI_c anI_c cdI_c ctI_c), slI_c⟩)
    (cI_c : PySem.W.codeIn K cdI_c "InvalidHeard.__init__" = true)
    (kC_c : PySem.W.keepIn K (.ref C) = true)
    (eC_c : PySem.W.subIn K (.ref C) (.type "BaseException") = some true)
    (tC_c : PySem.W.typeIn K (.ref C) = some (.type "type"))
    (hC_c : PySem.W.hasDictIn K C = true)
    (sC_c : PySem.W.subIn K (.ref C) (.ref C) = some true)
    (aC_r : PySem.W.nsIn K mainGlobals "Refused" = some (some (.ref R)))
    (xL_r : K.lookup R = some (PySem.excClassObj nm_r q_r R N_r bs_r [.ref B, .type "Exception", .type "BaseException", .type "object"] true sn_r sub_r ab_r col_r dd_r m0_r m1_r m2_r m3_r m5_r "Exception.__new__"))
    (sa_r : PySem.W.findIn K (.ref R) "__setattr__" = some (some (.builtin "object.__setattr__")))
    (ga_r : PySem.W.findIn K (.ref R) "__getattribute__" = some (some (.builtin "BaseException.__getattribute__")))
    (gg_r : PySem.W.findIn K (.ref R) "__getattr__" = some none)
    (nb_r : PySem.W.findIn K (.ref R) "at" = some none)
    (aI_r : PySem.W.findIn K (.ref R) "__init__" = some (some (.ref fI_r)))
    (tI_r : PySem.W.typeIn K (.ref fI_r) = some (.type "function"))
    (lI_r : K.lookup fI_r = some ⟨ocI_r, odI_r, .func (PySem.W.fnOf "__init__" "Refused.__init__" (Xb.iA ⟨10, 17, 10, 21⟩ ⟨10, 23, 10, 25⟩) (Xb.iB ⟨11, 8, 11, 12⟩ ⟨11, 8, 11, 15⟩ ⟨11, 18, 11, 20⟩ ⟨11, 8, 11, 20⟩) Xb.iS .none .none dcI_r pmI_r anI_r cdI_r ctI_r), slI_r⟩)
    (cI_r : PySem.W.codeIn K cdI_r "Refused.__init__" = true)
    (kC_r : PySem.W.keepIn K (.ref R) = true)
    (eC_r : PySem.W.subIn K (.ref R) (.type "BaseException") = some true)
    (tC_r : PySem.W.typeIn K (.ref R) = some (.type "type"))
    (hC_r : PySem.W.hasDictIn K R = true)
    (sC_r : PySem.W.subIn K (.ref R) (.ref R) = some true)
    (sRC : PySem.W.subIn K (.ref R) (.ref C) = some false)
    (a0 : PySem.W.nsIn K mainGlobals "is_name" = some (some (.ref f_is_name)))
    (l0 : K.lookup f_is_name = some ⟨oc0, od0, .func (PySem.W.fnOf "is_name" "is_name" (defArgs s_is_name) (defBody s_is_name) (defScope s_is_name) .none kV0 dc0 pm0 an0 cd0 ct0), sl0⟩)
    (c0 : PySem.W.codeIn K cd0 "is_name" = true)
    (k0 : PySem.W.keepIn K (.ref f_is_name) = true)
    (a1 : PySem.W.nsIn K mainGlobals "is_integer" = some (some (.ref f_is_integer)))
    (l1 : K.lookup f_is_integer = some ⟨oc1, od1, .func (PySem.W.fnOf "is_integer" "is_integer" (defArgs s_is_integer) (defBody s_is_integer) (defScope s_is_integer) .none kV1 dc1 pm1 an1 cd1 ct1), sl1⟩)
    (c1 : PySem.W.codeIn K cd1 "is_integer" = true)
    (k1 : PySem.W.keepIn K (.ref f_is_integer) = true)
    (a2 : PySem.W.nsIn K mainGlobals "is_count" = some (some (.ref f_is_count)))
    (l2 : K.lookup f_is_count = some ⟨oc2, od2, .func (PySem.W.fnOf "is_count" "is_count" (defArgs s_is_count) (defBody s_is_count) (defScope s_is_count) .none kV2 dc2 pm2 an2 cd2 ct2), sl2⟩)
    (c2 : PySem.W.codeIn K cd2 "is_count" = true)
    (k2 : PySem.W.keepIn K (.ref f_is_count) = true)
    (a3 : PySem.W.nsIn K mainGlobals "thin_lot" = some (some (.ref f_thin_lot)))
    (l3 : K.lookup f_thin_lot = some ⟨oc3, od3, .func (PySem.W.fnOf "thin_lot" "thin_lot" (defArgs s_thin_lot) (defBody s_thin_lot) (defScope s_thin_lot) .none kV3 dc3 pm3 an3 cd3 ct3), sl3⟩)
    (c3 : PySem.W.codeIn K cd3 "thin_lot" = true)
    (k3 : PySem.W.keepIn K (.ref f_thin_lot) = true)
    (a4 : PySem.W.nsIn K mainGlobals "is_part" = some (some (.ref f_is_part)))
    (l4 : K.lookup f_is_part = some ⟨oc4, od4, .func (PySem.W.fnOf "is_part" "is_part" (defArgs s_is_part) (defBody s_is_part) (defScope s_is_part) .none kV4 dc4 pm4 an4 cd4 ct4), sl4⟩)
    (c4 : PySem.W.codeIn K cd4 "is_part" = true)
    (k4 : PySem.W.keepIn K (.ref f_is_part) = true)
    (a5 : PySem.W.nsIn K mainGlobals "is_lot" = some (some (.ref f_is_lot)))
    (l5 : K.lookup f_is_lot = some ⟨oc5, od5, .func (PySem.W.fnOf "is_lot" "is_lot" (defArgs s_is_lot) (defBody s_is_lot) (defScope s_is_lot) .none kV5 dc5 pm5 an5 cd5 ct5), sl5⟩)
    (c5 : PySem.W.codeIn K cd5 "is_lot" = true)
    (k5 : PySem.W.keepIn K (.ref f_is_lot) = true)
    (a6 : PySem.W.nsIn K mainGlobals "is_tale" = some (some (.ref f_is_tale)))
    (l6 : K.lookup f_is_tale = some ⟨oc6, od6, .func (PySem.W.fnOf "is_tale" "is_tale" (defArgs s_is_tale) (defBody s_is_tale) (defScope s_is_tale) .none kV6 dc6 pm6 an6 cd6 ct6), sl6⟩)
    (c6 : PySem.W.codeIn K cd6 "is_tale" = true)
    (k6 : PySem.W.keepIn K (.ref f_is_tale) = true)
    (a7 : PySem.W.nsIn K mainGlobals "least_laying" = some (some (.ref f_least_laying)))
    (l7 : K.lookup f_least_laying = some ⟨oc7, od7, .func (PySem.W.fnOf "least_laying" "least_laying" (defArgs s_least_laying) (defBody s_least_laying) (defScope s_least_laying) .none kV7 dc7 pm7 an7 cd7 ct7), sl7⟩)
    (c7 : PySem.W.codeIn K cd7 "least_laying" = true)
    (k7 : PySem.W.keepIn K (.ref f_least_laying) = true)
    (a8 : PySem.W.nsIn K mainGlobals "need_tales" = some (some (.ref f_need_tales)))
    (l8 : K.lookup f_need_tales = some ⟨oc8, od8, .func (PySem.W.fnOf "need_tales" "need_tales" (defArgs s_need_tales) (defBody s_need_tales) (defScope s_need_tales) .none kV8 dc8 pm8 an8 cd8 ct8), sl8⟩)
    (c8 : PySem.W.codeIn K cd8 "need_tales" = true)
    (k8 : PySem.W.keepIn K (.ref f_need_tales) = true)
    (a9 : PySem.W.nsIn K mainGlobals "stuck_at" = some (some (.ref f_stuck_at)))
    (l9 : K.lookup f_stuck_at = some ⟨oc9, od9, .func (PySem.W.fnOf "stuck_at" "stuck_at" (defArgs s_stuck_at) (defBody s_stuck_at) (defScope s_stuck_at) .none kV9 dc9 pm9 an9 cd9 ct9), sl9⟩)
    (c9 : PySem.W.codeIn K cd9 "stuck_at" = true)
    (k9 : PySem.W.keepIn K (.ref f_stuck_at) = true)
    (a10 : PySem.W.nsIn K mainGlobals "need_laying" = some (some (.ref f_need_laying)))
    (l10 : K.lookup f_need_laying = some ⟨oc10, od10, .func (PySem.W.fnOf "need_laying" "need_laying" (defArgs s_need_laying) (defBody s_need_laying) (defScope s_need_laying) .none kV10 dc10 pm10 an10 cd10 ct10), sl10⟩)
    (c10 : PySem.W.codeIn K cd10 "need_laying" = true)
    (k10 : PySem.W.keepIn K (.ref f_need_laying) = true)
    (a11 : PySem.W.nsIn K mainGlobals "first_laying" = some (some (.ref f_first_laying)))
    (l11 : K.lookup f_first_laying = some ⟨oc11, od11, .func (PySem.W.fnOf "first_laying" "first_laying" (defArgs s_first_laying) (defBody s_first_laying) (defScope s_first_laying) .none kV11 dc11 pm11 an11 cd11 ct11), sl11⟩)
    (c11 : PySem.W.codeIn K cd11 "first_laying" = true)
    (k11 : PySem.W.keepIn K (.ref f_first_laying) = true)
    (a12 : PySem.W.nsIn K mainGlobals "last_laying" = some (some (.ref f_last_laying)))
    (l12 : K.lookup f_last_laying = some ⟨oc12, od12, .func (PySem.W.fnOf "last_laying" "last_laying" (defArgs s_last_laying) (defBody s_last_laying) (defScope s_last_laying) .none kV12 dc12 pm12 an12 cd12 ct12), sl12⟩)
    (c12 : PySem.W.codeIn K cd12 "last_laying" = true)
    (k12 : PySem.W.keepIn K (.ref f_last_laying) = true)
    (a13 : PySem.W.nsIn K mainGlobals "may_lie" = some (some (.ref f_may_lie)))
    (l13 : K.lookup f_may_lie = some ⟨oc13, od13, .func (PySem.W.fnOf "may_lie" "may_lie" (defArgs s_may_lie) (defBody s_may_lie) (defScope s_may_lie) .none kV13 dc13 pm13 an13 cd13 ct13), sl13⟩)
    (c13 : PySem.W.codeIn K cd13 "may_lie" = true)
    (k13 : PySem.W.keepIn K (.ref f_may_lie) = true)
    (a14 : PySem.W.nsIn K mainGlobals "silenced_tale" = some (some (.ref f_silenced_tale)))
    (l14 : K.lookup f_silenced_tale = some ⟨oc14, od14, .func (PySem.W.fnOf "silenced_tale" "silenced_tale" (defArgs s_silenced_tale) (defBody s_silenced_tale) (defScope s_silenced_tale) .none kV14 dc14 pm14 an14 cd14 ct14), sl14⟩)
    (c14 : PySem.W.codeIn K cd14 "silenced_tale" = true)
    (k14 : PySem.W.keepIn K (.ref f_silenced_tale) = true)
    (a15 : PySem.W.nsIn K mainGlobals "parts_of" = some (some (.ref f_parts_of)))
    (l15 : K.lookup f_parts_of = some ⟨oc15, od15, .func (PySem.W.fnOf "parts_of" "parts_of" (defArgs s_parts_of) (defBody s_parts_of) (defScope s_parts_of) .none kV15 dc15 pm15 an15 cd15 ct15), sl15⟩)
    (c15 : PySem.W.codeIn K cd15 "parts_of" = true)
    (k15 : PySem.W.keepIn K (.ref f_parts_of) = true)
    (a16 : PySem.W.nsIn K mainGlobals "event_lot" = some (some (.ref f_event_lot)))
    (l16 : K.lookup f_event_lot = some ⟨oc16, od16, .func (PySem.W.fnOf "event_lot" "event_lot" (defArgs s_event_lot) (defBody s_event_lot) (defScope s_event_lot) .none kV16 dc16 pm16 an16 cd16 ct16), sl16⟩)
    (c16 : PySem.W.codeIn K cd16 "event_lot" = true)
    (k16 : PySem.W.keepIn K (.ref f_event_lot) = true)
    (a17 : PySem.W.nsIn K mainGlobals "events_of" = some (some (.ref f_events_of)))
    (l17 : K.lookup f_events_of = some ⟨oc17, od17, .func (PySem.W.fnOf "events_of" "events_of" (defArgs s_events_of) (defBody s_events_of) (defScope s_events_of) .none kV17 dc17 pm17 an17 cd17 ct17), sl17⟩)
    (c17 : PySem.W.codeIn K cd17 "events_of" = true)
    (k17 : PySem.W.keepIn K (.ref f_events_of) = true)
    (a18 : PySem.W.nsIn K mainGlobals "number_of_event" = some (some (.ref f_number_of_event)))
    (l18 : K.lookup f_number_of_event = some ⟨oc18, od18, .func (PySem.W.fnOf "number_of_event" "number_of_event" (defArgs s_number_of_event) (defBody s_number_of_event) (defScope s_number_of_event) .none kV18 dc18 pm18 an18 cd18 ct18), sl18⟩)
    (c18 : PySem.W.codeIn K cd18 "number_of_event" = true)
    (k18 : PySem.W.keepIn K (.ref f_number_of_event) = true)
    (a19 : PySem.W.nsIn K mainGlobals "events_where" = some (some (.ref f_events_where)))
    (l19 : K.lookup f_events_where = some ⟨oc19, od19, .func (PySem.W.fnOf "events_where" "events_where" (defArgs s_events_where) (defBody s_events_where) (defScope s_events_where) .none kV19 dc19 pm19 an19 cd19 ct19), sl19⟩)
    (c19 : PySem.W.codeIn K cd19 "events_where" = true)
    (k19 : PySem.W.keepIn K (.ref f_events_where) = true)
    (a20 : PySem.W.nsIn K mainGlobals "heard_tales" = some (some (.ref f_heard_tales)))
    (l20 : K.lookup f_heard_tales = some ⟨oc20, od20, .func (PySem.W.fnOf "heard_tales" "heard_tales" (defArgs s_heard_tales) (defBody s_heard_tales) (defScope s_heard_tales) .none kV20 dc20 pm20 an20 cd20 ct20), sl20⟩)
    (c20 : PySem.W.codeIn K cd20 "heard_tales" = true)
    (k20 : PySem.W.keepIn K (.ref f_heard_tales) = true)
    (a21 : PySem.W.nsIn K mainGlobals "alike_silences" = some (some (.ref f_alike_silences)))
    (l21 : K.lookup f_alike_silences = some ⟨oc21, od21, .func (PySem.W.fnOf "alike_silences" "alike_silences" (defArgs s_alike_silences) (defBody s_alike_silences) (defScope s_alike_silences) .none kV21 dc21 pm21 an21 cd21 ct21), sl21⟩)
    (c21 : PySem.W.codeIn K cd21 "alike_silences" = true)
    (k21 : PySem.W.keepIn K (.ref f_alike_silences) = true)
    (a22 : PySem.W.nsIn K mainGlobals "_law_heap" = some (some (.ref f__law_heap)))
    (l22 : K.lookup f__law_heap = some ⟨oc22, od22, .func (PySem.W.fnOf "_law_heap" "_law_heap" (defArgs s__law_heap) (defBody s__law_heap) (defScope s__law_heap) .none kV22 dc22 pm22 an22 cd22 ct22), sl22⟩)
    (c22 : PySem.W.codeIn K cd22 "_law_heap" = true)
    (k22 : PySem.W.keepIn K (.ref f__law_heap) = true)
    (a23 : PySem.W.nsIn K mainGlobals "_law_draw" = some (some (.ref f__law_draw)))
    (l23 : K.lookup f__law_draw = some ⟨oc23, od23, .func (PySem.W.fnOf "_law_draw" "_law_draw" (defArgs s__law_draw) (defBody s__law_draw) (defScope s__law_draw) .none kV23 dc23 pm23 an23 cd23 ct23), sl23⟩)
    (c23 : PySem.W.codeIn K cd23 "_law_draw" = true)
    (k23 : PySem.W.keepIn K (.ref f__law_draw) = true)
    (a24 : PySem.W.nsIn K mainGlobals "_law_pick" = some (some (.ref f__law_pick)))
    (l24 : K.lookup f__law_pick = some ⟨oc24, od24, .func (PySem.W.fnOf "_law_pick" "_law_pick" (defArgs s__law_pick) (defBody s__law_pick) (defScope s__law_pick) .none kV24 dc24 pm24 an24 cd24 ct24), sl24⟩)
    (c24 : PySem.W.codeIn K cd24 "_law_pick" = true)
    (k24 : PySem.W.keepIn K (.ref f__law_pick) = true)
    (a25 : PySem.W.nsIn K mainGlobals "_law_tale" = some (some (.ref f__law_tale)))
    (l25 : K.lookup f__law_tale = some ⟨oc25, od25, .func (PySem.W.fnOf "_law_tale" "_law_tale" (defArgs s__law_tale) (defBody s__law_tale) (defScope s__law_tale) .none kV25 dc25 pm25 an25 cd25 ct25), sl25⟩)
    (c25 : PySem.W.codeIn K cd25 "_law_tale" = true)
    (k25 : PySem.W.keepIn K (.ref f__law_tale) = true)
    (a26 : PySem.W.nsIn K mainGlobals "_law_less" = some (some (.ref f__law_less)))
    (l26 : K.lookup f__law_less = some ⟨oc26, od26, .func (PySem.W.fnOf "_law_less" "_law_less" (defArgs s__law_less) (defBody s__law_less) (defScope s__law_less) .none kV26 dc26 pm26 an26 cd26 ct26), sl26⟩)
    (c26 : PySem.W.codeIn K cd26 "_law_less" = true)
    (k26 : PySem.W.keepIn K (.ref f__law_less) = true)
    (a27 : PySem.W.nsIn K mainGlobals "_law_layings" = some (some (.ref f__law_layings)))
    (l27 : K.lookup f__law_layings = some ⟨oc27, od27, .func (PySem.W.fnOf "_law_layings" "_law_layings" (defArgs s__law_layings) (defBody s__law_layings) (defScope s__law_layings) .none kV27 dc27 pm27 an27 cd27 ct27), sl27⟩)
    (c27 : PySem.W.codeIn K cd27 "_law_layings" = true)
    (k27 : PySem.W.keepIn K (.ref f__law_layings) = true)
    (a28 : PySem.W.nsIn K mainGlobals "_law_events" = some (some (.ref f__law_events)))
    (l28 : K.lookup f__law_events = some ⟨oc28, od28, .func (PySem.W.fnOf "_law_events" "_law_events" (defArgs s__law_events) (defBody s__law_events) (defScope s__law_events) .none kV28 dc28 pm28 an28 cd28 ct28), sl28⟩)
    (c28 : PySem.W.codeIn K cd28 "_law_events" = true)
    (k28 : PySem.W.keepIn K (.ref f__law_events) = true)
    (a29 : PySem.W.nsIn K mainGlobals "_law_without" = some (some (.ref f__law_without)))
    (l29 : K.lookup f__law_without = some ⟨oc29, od29, .func (PySem.W.fnOf "_law_without" "_law_without" (defArgs s__law_without) (defBody s__law_without) (defScope s__law_without) .none kV29 dc29 pm29 an29 cd29 ct29), sl29⟩)
    (c29 : PySem.W.codeIn K cd29 "_law_without" = true)
    (k29 : PySem.W.keepIn K (.ref f__law_without) = true)
    (a30 : PySem.W.nsIn K mainGlobals "_law_silences" = some (some (.ref f__law_silences)))
    (l30 : K.lookup f__law_silences = some ⟨oc30, od30, .func (PySem.W.fnOf "_law_silences" "_law_silences" (defArgs s__law_silences) (defBody s__law_silences) (defScope s__law_silences) .none kV30 dc30 pm30 an30 cd30 ct30), sl30⟩)
    (c30 : PySem.W.codeIn K cd30 "_law_silences" = true)
    (k30 : PySem.W.keepIn K (.ref f__law_silences) = true)
    (a31 : PySem.W.nsIn K mainGlobals "_law_told" = some (some (.ref f__law_told)))
    (l31 : K.lookup f__law_told = some ⟨oc31, od31, .func (PySem.W.fnOf "_law_told" "_law_told" (defArgs s__law_told) (defBody s__law_told) (defScope s__law_told) .none kV31 dc31 pm31 an31 cd31 ct31), sl31⟩)
    (c31 : PySem.W.codeIn K cd31 "_law_told" = true)
    (k31 : PySem.W.keepIn K (.ref f__law_told) = true)
    (aM_SI : PySem.W.nsIn K mainGlobals "silent_for_sure" = some (some (.ref g_SI)))
    (lM_SI : K.lookup g_SI = some ⟨ocSI, odSI, .func (PySem.W.fnOf "silent_for_sure" "silent_for_sure" (defArgs s_silent_for_sure) (defBody s_silent_for_sure) (defScope s_silent_for_sure) .none kVSI dcSI pmSI anSI (.ref c_SI) ctSI), slSI⟩)
    (cM_SI : PySem.W.codeIn K (.ref c_SI) "silent_for_sure" = true)
    (kM_SI : PySem.W.keepIn K (.ref g_SI) = true)
    (lC_SI : K.lookup c_SI = some ⟨clSI, ddSI, .fields vsSI, svSI⟩)
    (vC_SI : (vsSI[11]? : Option Value) = some (.ref P_SI))
    (tT_SI : h.get? P_SI = some { cls := .none, data := .fields #[] })
    (nP_SI : K.lookup P_SI = none)
    (hC_SI : PySem.W.codeHdIn K c_SI P_SI = true)
    (aM_HE : PySem.W.nsIn K mainGlobals "heard_for_sure" = some (some (.ref g_HE)))
    (lM_HE : K.lookup g_HE = some ⟨ocHE, odHE, .func (PySem.W.fnOf "heard_for_sure" "heard_for_sure" (defArgs s_heard_for_sure) (defBody s_heard_for_sure) (defScope s_heard_for_sure) .none kVHE dcHE pmHE anHE (.ref c_HE) ctHE), slHE⟩)
    (cM_HE : PySem.W.codeIn K (.ref c_HE) "heard_for_sure" = true)
    (kM_HE : PySem.W.keepIn K (.ref g_HE) = true)
    (lC_HE : K.lookup c_HE = some ⟨clHE, ddHE, .fields vsHE, svHE⟩)
    (vC_HE : (vsHE[11]? : Option Value) = some (.ref P_HE))
    (tT_HE : h.get? P_HE = some { cls := .none, data := .fields #[] })
    (nP_HE : K.lookup P_HE = none)
    (hC_HE : PySem.W.codeHdIn K c_HE P_HE = true)
    (aM_SU : PySem.W.nsIn K mainGlobals "_law_sure_right" = some (some (.ref g_SU)))
    (lM_SU : K.lookup g_SU = some ⟨ocSU, odSU, .func (PySem.W.fnOf "_law_sure_right" "_law_sure_right" (defArgs s__law_sure_right) (defBody s__law_sure_right) (defScope s__law_sure_right) .none kVSU dcSU pmSU anSU (.ref c_SU) ctSU), slSU⟩)
    (cM_SU : PySem.W.codeIn K (.ref c_SU) "_law_sure_right" = true)
    (kM_SU : PySem.W.keepIn K (.ref g_SU) = true)
    (lC_SU : K.lookup c_SU = some ⟨clSU, ddSU, .fields vsSU, svSU⟩)
    (vC_SU : (vsSU[11]? : Option Value) = some (.ref P_SU))
    (tT_SU : h.get? P_SU = some { cls := .none, data := .fields #[] })
    (nP_SU : K.lookup P_SU = none)
    (hC_SU : PySem.W.codeHdIn K c_SU P_SU = true)
    (aM_AL : PySem.W.nsIn K mainGlobals "_law_alike_right" = some (some (.ref g_AL)))
    (lM_AL : K.lookup g_AL = some ⟨ocAL, odAL, .func (PySem.W.fnOf "_law_alike_right" "_law_alike_right" (defArgs s__law_alike_right) (defBody s__law_alike_right) (defScope s__law_alike_right) .none kVAL dcAL pmAL anAL (.ref c_AL) ctAL), slAL⟩)
    (cM_AL : PySem.W.codeIn K (.ref c_AL) "_law_alike_right" = true)
    (kM_AL : PySem.W.keepIn K (.ref g_AL) = true)
    (lC_AL : K.lookup c_AL = some ⟨clAL, ddAL, .fields vsAL, svAL⟩)
    (vC_AL : (vsAL[11]? : Option Value) = some (.ref P_AL))
    (tT_AL : h.get? P_AL = some { cls := .none, data := .fields #[] })
    (nP_AL : K.lookup P_AL = none)
    (hC_AL : PySem.W.codeHdIn K c_AL P_AL = true)
    (aM_LW : PySem.W.nsIn K mainGlobals "law" = some (some (.ref g_LW)))
    (lM_LW : K.lookup g_LW = some ⟨ocLW, odLW, .func (PySem.W.fnOf "law" "law" (defArgs s_law) (defBody s_law) (defScope s_law) .none kVLW dcLW pmLW anLW (.ref c_LW) ctLW), slLW⟩)
    (cM_LW : PySem.W.codeIn K (.ref c_LW) "law" = true)
    (kM_LW : PySem.W.keepIn K (.ref g_LW) = true)
    (lC_LW : K.lookup c_LW = some ⟨clLW, ddLW, .fields vsLW, svLW⟩)
    (vC_LW : (vsLW[11]? : Option Value) = some (.ref P_LW))
    (tT_LW : h.get? P_LW = some { cls := .none, data := .fields #[] })
    (nP_LW : K.lookup P_LW = none)
    (hC_LW : PySem.W.codeHdIn K c_LW P_LW = true)
    (ne_HE_SI : P_HE ≠ P_SI)
    (ne_SU_SI : P_SU ≠ P_SI)
    (ne_SU_HE : P_SU ≠ P_HE)
    (ne_AL_SI : P_AL ≠ P_SI)
    (ne_AL_HE : P_AL ≠ P_HE)
    (ne_AL_SU : P_AL ≠ P_SU)
    (ne_LW_SI : P_LW ≠ P_SI)
    (ne_LW_HE : P_LW ≠ P_HE)
    (ne_LW_SU : P_LW ≠ P_SU)
    (ne_LW_AL : P_LW ≠ P_AL)
    (z_abs : PySem.W.nsIn K mainGlobals "abs" = some none)
    (z_all : PySem.W.nsIn K mainGlobals "all" = some none)
    (z_bool : PySem.W.nsIn K mainGlobals "bool" = some none)
    (z_enumerate : PySem.W.nsIn K mainGlobals "enumerate" = some none)
    (z_int : PySem.W.nsIn K mainGlobals "int" = some none)
    (z_isinstance : PySem.W.nsIn K mainGlobals "isinstance" = some none)
    (z_len : PySem.W.nsIn K mainGlobals "len" = some none)
    (z_list : PySem.W.nsIn K mainGlobals "list" = some none)
    (z_range : PySem.W.nsIn K mainGlobals "range" = some none)
    (z_repr : PySem.W.nsIn K mainGlobals "repr" = some none)
    (z_sorted : PySem.W.nsIn K mainGlobals "sorted" = some none)
    (z_str : PySem.W.nsIn K mainGlobals "str" = some none)
    (z_sum : PySem.W.nsIn K mainGlobals "sum" = some none)
    (z_tuple : PySem.W.nsIn K mainGlobals "tuple" = some none)
    (z_zip : PySem.W.nsIn K mainGlobals "zip" = some none)
    (gL : PySem.W.nsIn K mainGlobals "LETTERS" = some (some (.int 8 tkL)))
    : Gt.LawT l w K 14 63 "script" mg fa h := by
  have e := hfa.symm.trans (PySem.W.mg_of X G aM_LW)
  cases e
  have F_is_name := fun_mk (st := s_is_name) l0 c0 k0
  have b_is_name := F_is_name.binds (ps := ["value"]) fun _ _ _ _ _ _ us hl => match us, hl with | [_], _ => rfl
  have m_is_name := PySem.W.mg_of X G a0
  have F_is_integer := fun_mk (st := s_is_integer) l1 c1 k1
  have b_is_integer := F_is_integer.binds (ps := ["value"]) fun _ _ _ _ _ _ us hl => match us, hl with | [_], _ => rfl
  have m_is_integer := PySem.W.mg_of X G a1
  have F_is_count := fun_mk (st := s_is_count) l2 c2 k2
  have b_is_count := F_is_count.binds (ps := ["value"]) fun _ _ _ _ _ _ us hl => match us, hl with | [_], _ => rfl
  have m_is_count := PySem.W.mg_of X G a2
  have F_thin_lot := fun_mk (st := s_thin_lot) l3 c3 k3
  have b_thin_lot := F_thin_lot.binds (ps := ["lot", "names"]) fun _ _ _ _ _ _ us hl => match us, hl with | [_, _], _ => rfl
  have m_thin_lot := PySem.W.mg_of X G a3
  have F_is_part := fun_mk (st := s_is_part) l4 c4 k4
  have b_is_part := F_is_part.binds (ps := ["lot", "other"]) fun _ _ _ _ _ _ us hl => match us, hl with | [_, _], _ => rfl
  have m_is_part := PySem.W.mg_of X G a4
  have F_is_lot := fun_mk (st := s_is_lot) l5 c5 k5
  have b_is_lot := F_is_lot.binds (ps := ["value"]) fun _ _ _ _ _ _ us hl => match us, hl with | [_], _ => rfl
  have m_is_lot := PySem.W.mg_of X G a5
  have F_is_tale := fun_mk (st := s_is_tale) l6 c6 k6
  have b_is_tale := F_is_tale.binds (ps := ["value"]) fun _ _ _ _ _ _ us hl => match us, hl with | [_], _ => rfl
  have m_is_tale := PySem.W.mg_of X G a6
  have F_least_laying := fun_mk (st := s_least_laying) l7 c7 k7
  have b_least_laying := F_least_laying.binds (ps := ["lots", "heard"]) fun _ _ _ _ _ _ us hl => match us, hl with | [_, _], _ => rfl
  have m_least_laying := PySem.W.mg_of X G a7
  have F_need_tales := fun_mk (st := s_need_tales) l8 c8 k8
  have m_need_tales := PySem.W.mg_of X G a8
  have F_stuck_at := fun_mk (st := s_stuck_at) l9 c9 k9
  have b_stuck_at := F_stuck_at.binds (ps := ["lots", "heard"]) fun _ _ _ _ _ _ us hl => match us, hl with | [_, _], _ => rfl
  have m_stuck_at := PySem.W.mg_of X G a9
  have F_need_laying := fun_mk (st := s_need_laying) l10 c10 k10
  have b_need_laying := F_need_laying.binds (ps := ["lots", "heard"]) fun _ _ _ _ _ _ us hl => match us, hl with | [_, _], _ => rfl
  have m_need_laying := PySem.W.mg_of X G a10
  have F_first_laying := fun_mk (st := s_first_laying) l11 c11 k11
  have b_first_laying := F_first_laying.binds (ps := ["lots", "heard"]) fun _ _ _ _ _ _ us hl => match us, hl with | [_, _], _ => rfl
  have m_first_laying := PySem.W.mg_of X G a11
  have F_last_laying := fun_mk (st := s_last_laying) l12 c12 k12
  have b_last_laying := F_last_laying.binds (ps := ["lots", "heard"]) fun _ _ _ _ _ _ us hl => match us, hl with | [_, _], _ => rfl
  have m_last_laying := PySem.W.mg_of X G a12
  have F_may_lie := fun_mk (st := s_may_lie) l13 c13 k13
  have b_may_lie := F_may_lie.binds (ps := ["lots", "heard"]) fun _ _ _ _ _ _ us hl => match us, hl with | [_, _], _ => rfl
  have m_may_lie := PySem.W.mg_of X G a13
  have F_silenced_tale := fun_mk (st := s_silenced_tale) l14 c14 k14
  have b_silenced_tale := F_silenced_tale.binds (ps := ["lots", "name", "number"]) fun _ _ _ _ _ _ us hl => match us, hl with | [_, _, _], _ => rfl
  have m_silenced_tale := PySem.W.mg_of X G a14
  have F_parts_of := fun_mk (st := s_parts_of) l15 c15 k15
  have b_parts_of := F_parts_of.binds (ps := ["lot"]) fun _ _ _ _ _ _ us hl => match us, hl with | [_], _ => rfl
  have m_parts_of := PySem.W.mg_of X G a15
  have F_event_lot := fun_mk (st := s_event_lot) l16 c16 k16
  have b_event_lot := F_event_lot.binds (ps := ["tale", "name", "i"]) fun _ _ _ _ _ _ us hl => match us, hl with | [_, _, _], _ => rfl
  have m_event_lot := PySem.W.mg_of X G a16
  have F_events_of := fun_mk (st := s_events_of) l17 c17 k17
  have b_events_of := F_events_of.binds (ps := ["tale"]) fun _ _ _ _ _ _ us hl => match us, hl with | [_], _ => rfl
  have m_events_of := PySem.W.mg_of X G a17
  have F_number_of_event := fun_mk (st := s_number_of_event) l18 c18 k18
  have b_number_of_event := F_number_of_event.binds (ps := ["lots", "value"]) fun _ _ _ _ _ _ us hl => match us, hl with | [_, _], _ => rfl
  have m_number_of_event := PySem.W.mg_of X G a18
  have F_events_where := fun_mk (st := s_events_where) l19 c19 k19
  have b_events_where := F_events_where.binds (ps := ["lots", "is_wanted"]) fun _ _ _ _ _ _ us hl => match us, hl with | [_, _], _ => rfl
  have m_events_where := PySem.W.mg_of X G a19
  have F_heard_tales := fun_mk (st := s_heard_tales) l20 c20 k20
  have b_heard_tales := F_heard_tales.binds (ps := ["lots"]) fun _ _ _ _ _ _ us hl => match us, hl with | [_], _ => rfl
  have m_heard_tales := PySem.W.mg_of X G a20
  have F_alike_silences := fun_mk (st := s_alike_silences) l21 c21 k21
  have b_alike_silences := F_alike_silences.binds (ps := ["lots", "one", "other"]) fun _ _ _ _ _ _ us hl => match us, hl with | [_, _, _], _ => rfl
  have m_alike_silences := PySem.W.mg_of X G a21
  have F__law_heap := fun_mk (st := s__law_heap) l22 c22 k22
  have b__law_heap := F__law_heap.binds (ps := ["script", "base"]) fun _ _ _ _ _ _ us hl => match us, hl with | [_, _], _ => rfl
  have m__law_heap := PySem.W.mg_of X G a22
  have F__law_draw := fun_mk (st := s__law_draw) l23 c23 k23
  have b__law_draw := F__law_draw.binds (ps := ["heap", "many"]) fun _ _ _ _ _ _ us hl => match us, hl with | [_, _], _ => rfl
  have m__law_draw := PySem.W.mg_of X G a23
  have F__law_pick := fun_mk (st := s__law_pick) l24 c24 k24
  have b__law_pick := F__law_pick.binds (ps := ["heap", "some"]) fun _ _ _ _ _ _ us hl => match us, hl with | [_, _], _ => rfl
  have m__law_pick := PySem.W.mg_of X G a24
  have F__law_tale := fun_mk (st := s__law_tale) l25 c25 k25
  have b__law_tale := F__law_tale.binds (ps := ["heap", "names", "most"]) fun _ _ _ _ _ _ us hl => match us, hl with | [_, _, _], _ => rfl
  have m__law_tale := PySem.W.mg_of X G a25
  have F__law_less := fun_mk (st := s__law_less) l26 c26 k26
  have b__law_less := F__law_less.binds (ps := ["heap", "lots"]) fun _ _ _ _ _ _ us hl => match us, hl with | [_, _], _ => rfl
  have m__law_less := PySem.W.mg_of X G a26
  have F__law_layings := fun_mk (st := s__law_layings) l27 c27 k27
  have b__law_layings := F__law_layings.binds (ps := ["lots", "heard"]) fun _ _ _ _ _ _ us hl => match us, hl with | [_, _], _ => rfl
  have m__law_layings := PySem.W.mg_of X G a27
  have F__law_events := fun_mk (st := s__law_events) l28 c28 k28
  have b__law_events := F__law_events.binds (ps := ["lots"]) fun _ _ _ _ _ _ us hl => match us, hl with | [_], _ => rfl
  have m__law_events := PySem.W.mg_of X G a28
  have F__law_without := fun_mk (st := s__law_without) l29 c29 k29
  have b__law_without := F__law_without.binds (ps := ["lots", "events", "event"]) fun _ _ _ _ _ _ us hl => match us, hl with | [_, _, _], _ => rfl
  have m__law_without := PySem.W.mg_of X G a29
  have F__law_silences := fun_mk (st := s__law_silences) l30 c30 k30
  have b__law_silences := F__law_silences.binds (ps := ["lots"]) fun _ _ _ _ _ _ us hl => match us, hl with | [_], _ => rfl
  have m__law_silences := PySem.W.mg_of X G a30
  have F__law_told := fun_mk (st := s__law_told) l31 c31 k31
  have b__law_told := F__law_told.binds (ps := ["work"]) fun _ _ _ _ _ _ us hl => match us, hl with | [_], _ => rfl
  have m__law_told := PySem.W.mg_of X G a31
  have n_abs := PySem.W.mg_none_of X G z_abs
  have n_all := PySem.W.mg_none_of X G z_all
  have n_bool := PySem.W.mg_none_of X G z_bool
  have n_enumerate := PySem.W.mg_none_of X G z_enumerate
  have n_int := PySem.W.mg_none_of X G z_int
  have n_isinstance := PySem.W.mg_none_of X G z_isinstance
  have n_len := PySem.W.mg_none_of X G z_len
  have n_list := PySem.W.mg_none_of X G z_list
  have n_range := PySem.W.mg_none_of X G z_range
  have n_repr := PySem.W.mg_none_of X G z_repr
  have n_sorted := PySem.W.mg_none_of X G z_sorted
  have n_str := PySem.W.mg_none_of X G z_str
  have n_sum := PySem.W.mg_none_of X G z_sum
  have n_tuple := PySem.W.mg_none_of X G z_tuple
  have n_zip := PySem.W.mg_none_of X G z_zip
  have g_L := PySem.W.mg_of X G gL
  have T_c : Xb.ErrC K mg "InvalidHeard" C fI_c := { gC := PySem.W.mg_of X G aC_c, cls := ⟨nm_c, q_c, N_c, bs_c, _, sn_c, sub_c, ab_c, col_c, dd_c, m0_c, m1_c, m2_c, m3_c, m5_c, xL_c, rfl⟩, sa := sa_c, ga := ga_c, gg := gg_c, noN := nb_c, iC := aI_c, tC := tI_c, kC := kC_c, exC := eC_c, tyC := tC_c, hdC := hC_c, te := PySem.W.exm_ref eC_c hC_c tC_c sC_c, fn := ⟨_, _, _, _, _, _, _, _, _, _, _, _, _, _, _, lI_c, cI_c⟩ }
  have T_r : Xb.ErrC K mg "Refused" R fI_r := { gC := PySem.W.mg_of X G aC_r, cls := ⟨nm_r, q_r, N_r, bs_r, _, sn_r, sub_r, ab_r, col_r, dd_r, m0_r, m1_r, m2_r, m3_r, m5_r, xL_r, rfl⟩, sa := sa_r, ga := ga_r, gg := gg_r, noN := nb_r, iC := aI_r, tC := tI_r, kC := kC_r, exC := eC_r, tyC := tC_r, hdC := hC_r, te := PySem.W.exm_ref eC_r hC_r tC_r sC_r, fn := ⟨_, _, _, _, _, _, _, _, _, _, _, _, _, _, _, lI_r, cI_r⟩ }
  have mM_SI := PySem.W.mg_of X G aM_SI
  have mM_HE := PySem.W.mg_of X G aM_HE
  have mM_SU := PySem.W.mg_of X G aM_SU
  have mM_AL := PySem.W.mg_of X G aM_AL
  have mM_LW := PySem.W.mg_of X G aM_LW
  have eRC : PySem.W.exmOne K (.ref R) (.ref C) = some false := PySem.W.exm_ref eC_c hC_c tC_c sRC
  let cs : List (Addr × Addr) := [(c_SI, P_SI), (c_HE, P_HE), (c_SU, P_SU), (c_AL, P_AL), (c_LW, P_LW)]
  let T : List (Addr × Str) := [(P_SI, qSI), (P_HE, qHE), (P_SU, qSU), (P_AL, qAL), (P_LW, qLW)]
  have hTs : ∀ p ∈ cs, h.get? p.2 = some { cls := .none, data := .fields #[] } := by
    intro p hp
    simp only [cs, List.mem_cons, List.not_mem_nil, or_false] at hp
    rcases hp with rfl | rfl | rfl | rfl | rfl
    · exact tT_SI
    · exact tT_HE
    · exact tT_SU
    · exact tT_AL
    · exact tT_LW
  have hNs : ∀ p ∈ cs, K.lookup p.2 = none := by
    intro p hp
    simp only [cs, List.mem_cons, List.not_mem_nil, or_false] at hp
    rcases hp with rfl | rfl | rfl | rfl | rfl
    · exact nP_SI
    · exact nP_HE
    · exact nP_SU
    · exact nP_AL
    · exact nP_LW
  have hHs : ∀ p ∈ cs, PySem.W.codeHdIn K p.1 p.2 = true := by
    intro p hp
    simp only [cs, List.mem_cons, List.not_mem_nil, or_false] at hp
    rcases hp with rfl | rfl | rfl | rfl | rfl
    · exact hC_SI
    · exact hC_HE
    · exact hC_SU
    · exact hC_AL
    · exact hC_LW
  refine ⟨PySem.W.fnOf "law" "law" (defArgs s_law) (defBody s_law) (defScope s_law) .none kVLW dcLW pmLW anLW (.ref c_LW) ctLW, cs, spLaw K T, hTs, hNs, hHs, fun s v => .of_eq rfl, fun H a ns hl hT hS => ⟨a, ns, rfl, hS, hl, ?_, fun _ => rfl⟩, fun base _ _ hTB => ?_⟩
  · intro y hy
    simp only [T, List.mem_cons, List.not_mem_nil, or_false] at hy
    rcases hy with rfl | rfl | rfl | rfl | rfl
    · exact TabS.nil (hT (c_SI, P_SI) (by simp [cs]))
    · exact TabS.nil (hT (c_HE, P_HE) (by simp [cs]))
    · exact TabS.nil (hT (c_SU, P_SU) (by simp [cs]))
    · exact TabS.nil (hT (c_AL, P_AL) (by simp [cs]))
    · exact TabS.nil (hT (c_LW, P_LW) (by simp [cs]))
  have TB_SI := hTB (c_SI, P_SI) (by simp [cs])
  have in_SI : (P_SI, qSI) ∈ T := by simp [T]
  have one_SI : ∀ y ∈ T, y.1 = P_SI → y.2 = qSI := by
    intro y hy e
    simp only [T, List.mem_cons, List.not_mem_nil, or_false] at hy
    rcases hy with rfl | rfl | rfl | rfl | rfl
    · rfl
    · exact absurd e ne_HE_SI
    · exact absurd e ne_SU_SI
    · exact absurd e ne_AL_SI
    · exact absurd e ne_LW_SI
  have TB_HE := hTB (c_HE, P_HE) (by simp [cs])
  have in_HE : (P_HE, qHE) ∈ T := by simp [T]
  have one_HE : ∀ y ∈ T, y.1 = P_HE → y.2 = qHE := by
    intro y hy e
    simp only [T, List.mem_cons, List.not_mem_nil, or_false] at hy
    rcases hy with rfl | rfl | rfl | rfl | rfl
    · exact absurd e.symm ne_HE_SI
    · rfl
    · exact absurd e ne_SU_HE
    · exact absurd e ne_AL_HE
    · exact absurd e ne_LW_HE
  have TB_SU := hTB (c_SU, P_SU) (by simp [cs])
  have in_SU : (P_SU, qSU) ∈ T := by simp [T]
  have one_SU : ∀ y ∈ T, y.1 = P_SU → y.2 = qSU := by
    intro y hy e
    simp only [T, List.mem_cons, List.not_mem_nil, or_false] at hy
    rcases hy with rfl | rfl | rfl | rfl | rfl
    · exact absurd e.symm ne_SU_SI
    · exact absurd e.symm ne_SU_HE
    · rfl
    · exact absurd e ne_AL_SU
    · exact absurd e ne_LW_SU
  have TB_AL := hTB (c_AL, P_AL) (by simp [cs])
  have in_AL : (P_AL, qAL) ∈ T := by simp [T]
  have one_AL : ∀ y ∈ T, y.1 = P_AL → y.2 = qAL := by
    intro y hy e
    simp only [T, List.mem_cons, List.not_mem_nil, or_false] at hy
    rcases hy with rfl | rfl | rfl | rfl | rfl
    · exact absurd e.symm ne_AL_SI
    · exact absurd e.symm ne_AL_HE
    · exact absurd e.symm ne_AL_SU
    · rfl
    · exact absurd e ne_LW_AL
  have TB_LW := hTB (c_LW, P_LW) (by simp [cs])
  have in_LW : (P_LW, qLW) ∈ T := by simp [T]
  have one_LW : ∀ y ∈ T, y.1 = P_LW → y.2 = qLW := by
    intro y hy e
    simp only [T, List.mem_cons, List.not_mem_nil, or_false] at hy
    rcases hy with rfl | rfl | rfl | rfl | rfl
    · exact absurd e.symm ne_LW_SI
    · exact absurd e.symm ne_LW_HE
    · exact absurd e.symm ne_LW_SU
    · exact absurd e.symm ne_LW_AL
    · rfl
  have G_is_name := ok_is_name (P := l.prog) (w := w) (mg := mg) (base := base) F_is_name g_L n_isinstance n_len n_str
  have C_is_name : Hb.Cl l.prog w K mg base "is_name" ["value"] [] 1 (spIsName K) := ⟨_, _, [], G_is_name, m_is_name, k0, b_is_name, .nil⟩
  have G_is_integer := ok_isint (P := l.prog) (w := w) (mg := mg) (base := base) F_is_integer n_bool n_int n_isinstance
  have C_is_integer : Hb.Cl l.prog w K mg base "is_integer" ["value"] [] 1 (spIsInt K) := ⟨_, _, [], G_is_integer, m_is_integer, k1, b_is_integer, .nil⟩
  have G_is_count := ok_cnt (P := l.prog) (w := w) (mg := mg) (base := base) F_is_count C_is_integer
  have C_is_count : Hb.Cl l.prog w K mg base "is_count" ["value"] [] 2 (spCntD K) := ⟨_, _, [], G_is_count, m_is_count, k2, b_is_count, .nil⟩
  have G_thin_lot := ok_thin_lot (P := l.prog) (w := w) (mg := mg) (base := base) F_thin_lot n_tuple
  have C_thin_lot : Hb.Cl l.prog w K mg base "thin_lot" ["lot", "names"] [] 1 (spThin K) := ⟨_, _, [], G_thin_lot, m_thin_lot, k3, b_thin_lot, .nil⟩
  have G_is_part := ok_is_part (P := l.prog) (w := w) (mg := mg) (base := base) F_is_part C_thin_lot n_len
  have C_is_part : Hb.Cl l.prog w K mg base "is_part" ["lot", "other"] [] 2 (spPart K) := ⟨_, _, [], G_is_part, m_is_part, k4, b_is_part, .nil⟩
  have G_is_lot := ok_is_lot (P := l.prog) (w := w) (mg := mg) (base := base) F_is_lot C_is_name n_all n_isinstance n_len n_tuple n_zip
  have C_is_lot : Hb.Cl l.prog w K mg base "is_lot" ["value"] [] 2 (spIsLot K) := ⟨_, _, [], G_is_lot, m_is_lot, k5, b_is_lot, .nil⟩
  have G_is_tale := ok_is_tale (P := l.prog) (w := w) (mg := mg) (base := base) F_is_tale C_is_lot n_all n_isinstance n_tuple
  have C_is_tale : Hb.Cl l.prog w K mg base "is_tale" ["value"] [] 3 (spIsTale K) := ⟨_, _, [], G_is_tale, m_is_tale, k6, b_is_tale, .nil⟩
  have G_least_laying := ok_least (P := l.prog) (w := w) (mg := mg) (base := base) F_least_laying C_is_part n_len
  have C_least_laying : Hb.Cl l.prog w K mg base "least_laying" ["lots", "heard"] [] 3 (spLay K) := ⟨_, _, [], G_least_laying, m_least_laying, k7, b_least_laying, .nil⟩
  have G_silenced_tale := ok_sil (P := l.prog) (w := w) (mg := mg) (base := base) F_silenced_tale n_tuple
  have C_silenced_tale : Hb.Cl l.prog w K mg base "silenced_tale" ["lots", "name", "number"] [] 1 (spSil K) := ⟨_, _, [], G_silenced_tale, m_silenced_tale, k14, b_silenced_tale, .nil⟩
  have G_parts_of := ok_parts (P := l.prog) (w := w) (mg := mg) (base := base) F_parts_of 
  have C_parts_of : Hb.Cl l.prog w K mg base "parts_of" ["lot"] [] 1 (spParts K) := ⟨_, _, [], G_parts_of, m_parts_of, k15, b_parts_of, .nil⟩
  have G_event_lot := ok_evl (P := l.prog) (w := w) (mg := mg) (base := base) F_event_lot n_enumerate
  have C_event_lot : Hb.Cl l.prog w K mg base "event_lot" ["tale", "name", "i"] [] 1 (spEvL K) := ⟨_, _, [], G_event_lot, m_event_lot, k16, b_event_lot, .nil⟩
  have G_events_of := ok_evs (P := l.prog) (w := w) (mg := mg) (base := base) F_events_of n_tuple
  have C_events_of : Hb.Cl l.prog w K mg base "events_of" ["tale"] [] 1 (spEvs K) := ⟨_, _, [], G_events_of, m_events_of, k17, b_events_of, .nil⟩
  have G_number_of_event := ok_num (P := l.prog) (w := w) (mg := mg) (base := base) F_number_of_event C_event_lot C_is_count C_is_name n_isinstance n_len n_tuple
  have C_number_of_event : Hb.Cl l.prog w K mg base "number_of_event" ["lots", "value"] [] 3 (spNum K) := ⟨_, _, [], G_number_of_event, m_number_of_event, k18, b_number_of_event, .nil⟩
  have G__law_heap := ok_heap (P := l.prog) (w := w) (mg := mg) (base := base) F__law_heap n_abs n_int
  have C__law_heap : Hb.Cl l.prog w K mg base "_law_heap" ["script", "base"] [] 1 (spDeal K) := ⟨_, _, [], G__law_heap, m__law_heap, k22, b__law_heap, .nil⟩
  have G__law_draw := ok_draw (P := l.prog) (w := w) (mg := mg) (base := base) F__law_draw n_int
  have C__law_draw : Hb.Cl l.prog w K mg base "_law_draw" ["heap", "many"] [] 1 (spDraw) := ⟨_, _, [], G__law_draw, m__law_draw, k23, b__law_draw, .nil⟩
  have G__law_pick := ok_pick (P := l.prog) (w := w) (mg := mg) (base := base) F__law_pick C__law_draw n_len
  have C__law_pick : Hb.Cl l.prog w K mg base "_law_pick" ["heap", "some"] [] 2 (spPick K) := ⟨_, _, [], G__law_pick, m__law_pick, k24, b__law_pick, .nil⟩
  have G__law_tale := ok_tale (P := l.prog) (w := w) (mg := mg) (base := base) F__law_tale C__law_draw C__law_pick n_range n_sorted n_tuple
  have C__law_tale : Hb.Cl l.prog w K mg base "_law_tale" ["heap", "names", "most"] [] 3 (spTale) := ⟨_, _, [], G__law_tale, m__law_tale, k25, b__law_tale, .nil⟩
  have G__law_less := ok_less (P := l.prog) (w := w) (mg := mg) (base := base) F__law_less C__law_draw C__law_pick n_len n_tuple
  have C__law_less : Hb.Cl l.prog w K mg base "_law_less" ["heap", "lots"] [] 3 (spLess K) := ⟨_, _, [], G__law_less, m__law_less, k26, b__law_less, .nil⟩
  have G__law_layings := ok_llay (P := l.prog) (w := w) (mg := mg) (base := base) F__law_layings n_len n_range
  have C__law_layings : Hb.Cl l.prog w K mg base "_law_layings" ["lots", "heard"] [] 1 (spLLay K) := ⟨_, _, [], G__law_layings, m__law_layings, k27, b__law_layings, .nil⟩
  have G__law_events := ok_levs (P := l.prog) (w := w) (mg := mg) (base := base) F__law_events 
  have C__law_events : Hb.Cl l.prog w K mg base "_law_events" ["lots"] [] 1 (spLEvs K) := ⟨_, _, [], G__law_events, m__law_events, k28, b__law_events, .nil⟩
  have G__law_without := ok_lwo (P := l.prog) (w := w) (mg := mg) (base := base) F__law_without n_enumerate n_tuple
  have C__law_without : Hb.Cl l.prog w K mg base "_law_without" ["lots", "events", "event"] [] 1 (spLWo K) := ⟨_, _, [], G__law_without, m__law_without, k29, b__law_without, .nil⟩
  have G__law_silences := ok_lsil (P := l.prog) (w := w) (mg := mg) (base := base) F__law_silences n_len
  have C__law_silences : Hb.Cl l.prog w K mg base "_law_silences" ["lots"] [] 1 (spLSil K w) := ⟨_, _, [], G__law_silences, m__law_silences, k30, b__law_silences, .nil⟩
  have G_need := ok_need (P := l.prog) (w := w) (mg := mg) (base := base) F_need_tales T_c C_is_tale n_enumerate
  have G_stuck_at := ok_stuck (P := l.prog) (w := w) (mg := mg) (base := base) F_stuck_at G_need m_need_tales k8 C_least_laying n_len
  have C_stuck_at : Cx_ l.prog w K mg base "stuck_at" ["lots", "heard"] 5 (spStuck K C) := ⟨_, _, G_stuck_at, m_stuck_at, k9, b_stuck_at⟩
  have G_need_laying := ok_needL (P := l.prog) (w := w) (mg := mg) (base := base) F_need_laying T_r C_stuck_at
  have C_need_laying : Cx_ l.prog w K mg base "need_laying" ["lots", "heard"] 6 (spNeedL K C R) := ⟨_, _, G_need_laying, m_need_laying, k10, b_need_laying⟩
  have G_first_laying := ok_first (P := l.prog) (w := w) (mg := mg) (base := base) F_first_laying C_need_laying C_least_laying n_tuple
  have C_first_laying : Cx_ l.prog w K mg base "first_laying" ["lots", "heard"] 7 (spFirst K C R) := ⟨_, _, G_first_laying, m_first_laying, k11, b_first_laying⟩
  have G_last_laying := ok_last (P := l.prog) (w := w) (mg := mg) (base := base) F_last_laying C_need_laying C_least_laying n_len n_tuple
  have C_last_laying : Cx_ l.prog w K mg base "last_laying" ["lots", "heard"] 7 (spLast K C R) := ⟨_, _, G_last_laying, m_last_laying, k12, b_last_laying⟩
  have G_may_lie := ok_may (P := l.prog) (w := w) (mg := mg) (base := base) F_may_lie C_first_laying C_last_laying C_is_part n_range n_tuple n_zip
  have C_may_lie : Cx_ l.prog w K mg base "may_lie" ["lots", "heard"] 8 (spMay K C R) := ⟨_, _, G_may_lie, m_may_lie, k13, b_may_lie⟩
  have HO : Cq.Ho l.prog w K mg base CX0 "events_where" ["lots", "is_wanted"] 8 (spWhO l.prog w K mg) := ⟨_, _, fun b le => ok_whO F_events_where (Cl.up C_events_of le) n_enumerate n_sorted n_tuple, m_events_where, k19, b_events_where⟩
  have G_heard_tales := ok_hear (P := l.prog) (w := w) (mg := mg) (base := base) F_heard_tales G_need m_need_tales k8 C_parts_of n_len n_list n_range n_sum
  have C_heard_tales : Cx_ l.prog w K mg base "heard_tales" ["lots"] 5 (spHear K C) := ⟨_, _, G_heard_tales, m_heard_tales, k20, b_heard_tales⟩
  have G_alike_silences := ok_alike (P := l.prog) (w := w) (mg := mg) (base := base) F_alike_silences T_c G_need m_need_tales k8 C_number_of_event C_silenced_tale n_enumerate
  have C_alike_silences : Cx_ l.prog w K mg base "alike_silences" ["lots", "one", "other"] 5 (spAlike K C) := ⟨_, _, G_alike_silences, m_alike_silences, k21, b_alike_silences⟩
  have G_SI := ok_SI (P := l.prog) (w := w) (mg := mg) (base := base) (C := C) (R := R) lM_SI cM_SI TB_SI in_SI one_SI n_zip C_may_lie HO
  have F_SI := fun_mk (st := s_silent_for_sure) lM_SI cM_SI kM_SI
  have b_SI := F_SI.binds (ps := ["lots", "heard"]) fun _ _ _ _ _ _ us hl => match us, hl with | [_, _], _ => rfl
  have C_silent_for_sure : Cx_ l.prog w K mg base "silent_for_sure" ["lots", "heard"] 9 (spSure K C R T silentF) := ⟨_, _, G_SI, mM_SI, kM_SI, b_SI⟩
  have G_HE := ok_HE (P := l.prog) (w := w) (mg := mg) (base := base) (C := C) (R := R) lM_HE cM_HE TB_HE in_HE one_HE C_need_laying C_silenced_tale C_stuck_at HO
  have F_HE := fun_mk (st := s_heard_for_sure) lM_HE cM_HE kM_HE
  have b_HE := F_HE.binds (ps := ["lots", "heard"]) fun _ _ _ _ _ _ us hl => match us, hl with | [_, _], _ => rfl
  have C_heard_for_sure : Cx_ l.prog w K mg base "heard_for_sure" ["lots", "heard"] 9 (spSure K C R T heardF) := ⟨_, _, G_HE, mM_HE, kM_HE, b_HE⟩
  have BK_SI := kb_fwd (ps := ["lots", "heard"]) (ks := ["lots", "heard"]) F_SI fun kV doc pm an cdv ct ws h => match ws, h with | [_, _], _ => rfl
  have K_silent_for_sure : CkX l.prog w K mg base "silent_for_sure" ["lots", "heard"] ["lots", "heard"] (fun _ zs => zs) 9 (spSure K C R T silentF) := ⟨_, _, _, G_SI, mM_SI, kM_SI, BK_SI⟩
  have BK_alike_silences := Kw.kb_rev (ps := ["lots", "one", "other"]) (ks := ["other", "one", "lots"]) F_alike_silences fun kV doc pm an cdv ct ws h => match ws, h with | [_, _, _], _ => rfl
  have K_alike_silences : CkX l.prog w K mg base "alike_silences" ["lots", "one", "other"] ["other", "one", "lots"] (fun _ zs => zs.reverse) 5 (spAlike K C) := ⟨_, _, _, G_alike_silences, m_alike_silences, k21, BK_alike_silences⟩
  have G_SU := ok_surer (P := l.prog) (w := w) (mg := mg) (base := base) (C := C) (R := R) lM_SU cM_SU TB_SU in_SU one_SU F__law_told b__law_told m__law_told T_c T_r eRC C__law_events C__law_layings C__law_without C_heard_for_sure C_silent_for_sure C_stuck_at K_silent_for_sure n_enumerate n_len n_sorted n_tuple
  have F_SU := fun_mk (st := s__law_sure_right) lM_SU cM_SU kM_SU
  have b_SU := F_SU.binds (ps := ["lots", "heard"]) fun _ _ _ _ _ _ us hl => match us, hl with | [_, _], _ => rfl
  have C__law_sure_right : Hb.Cl l.prog w K mg base "_law_sure_right" ["lots", "heard"] [] 12 (spSureR T) := ⟨_, _, [], G_SU, mM_SU, kM_SU, b_SU, .nil⟩
  have G_AL := ok_aliker (P := l.prog) (w := w) (mg := mg) (base := base) (C := C) (R := R) lM_AL cM_AL TB_AL in_AL one_AL F__law_told b__law_told m__law_told T_c T_r eRC C__law_draw C__law_events C__law_pick C__law_without C_alike_silences K_alike_silences n_list n_repr n_tuple
  have F_AL := fun_mk (st := s__law_alike_right) lM_AL cM_AL kM_AL
  have b_AL := F_AL.binds (ps := ["heap", "lots"]) fun _ _ _ _ _ _ us hl => match us, hl with | [_, _], _ => rfl
  have C__law_alike_right : Hb.Cl l.prog w K mg base "_law_alike_right" ["heap", "lots"] [] 12 (spAlikeR T) := ⟨_, _, [], G_AL, mM_AL, kM_AL, b_AL, .nil⟩
  have HT : Cq.Ho l.prog w K mg base CX0 "_law_told" ["work"] 11 (spToV l.prog w K mg 10 C R) := ⟨_, _, fun b le => ok_told F__law_told T_c T_r eRC, m__law_told, k31, b__law_told⟩
  exact Gu.FnG.of (ok_law (P := l.prog) (w := w) (mg := mg) (base := base) (C := C) (R := R) lM_LW cM_LW TB_LW in_LW one_LW F__law_told b__law_told m__law_told T_c T_r eRC C__law_alike_right C__law_draw C__law_heap C__law_less C__law_pick C__law_silences C__law_sure_right C__law_tale C_heard_tales C_silent_for_sure C_heard_for_sure C_alike_silences HT n_len n_repr n_tuple)
end K6
open PySem PySem.W PyProof.Rows
set_option maxRecDepth 100000 in
set_option maxHeartbeats 0 in
theorem PySem.Challenge.cw_curvebells_k87_whole_events_silent_and_h_holds : PySem.Challenge.rw_curvebells_k87_whole_events_silent_and_h.Holds := by
  w_on; o_law; k_head; (case hw => w_witness2)
  k_fill
  refine Gt.walk_tabs (l := PySem.Challenge.rw_curvebells_k87_whole_events_silent_and_h) (n := 63) (k := 14) (x := "script") rfl (by decide) rfl ⟨rfl, by decide, by decide⟩ (fun w h Y => PySem.W.km_in_of Y) ?F
  case F =>
    intro w mg fa h Y KX G hmg
    refine' K6.all_mk KX G hmg ?aB ?aC_c ?xL_c ?sa_c ?ga_c ?gg_c ?nb_c ?aI_c ?tI_c ?lI_c ?cI_c ?kC_c ?eC_c ?tC_c ?hC_c ?sC_c ?aC_r ?xL_r ?sa_r ?ga_r ?gg_r ?nb_r ?aI_r ?tI_r ?lI_r ?cI_r ?kC_r ?eC_r ?tC_r ?hC_r ?sC_r ?sRC ?a0 ?l0 ?c0 ?k0 ?a1 ?l1 ?c1 ?k1 ?a2 ?l2 ?c2 ?k2 ?a3 ?l3 ?c3 ?k3 ?a4 ?l4 ?c4 ?k4 ?a5 ?l5 ?c5 ?k5 ?a6 ?l6 ?c6 ?k6 ?a7 ?l7 ?c7 ?k7 ?a8 ?l8 ?c8 ?k8 ?a9 ?l9 ?c9 ?k9 ?a10 ?l10 ?c10 ?k10 ?a11 ?l11 ?c11 ?k11 ?a12 ?l12 ?c12 ?k12 ?a13 ?l13 ?c13 ?k13 ?a14 ?l14 ?c14 ?k14 ?a15 ?l15 ?c15 ?k15 ?a16 ?l16 ?c16 ?k16 ?a17 ?l17 ?c17 ?k17 ?a18 ?l18 ?c18 ?k18 ?a19 ?l19 ?c19 ?k19 ?a20 ?l20 ?c20 ?k20 ?a21 ?l21 ?c21 ?k21 ?a22 ?l22 ?c22 ?k22 ?a23 ?l23 ?c23 ?k23 ?a24 ?l24 ?c24 ?k24 ?a25 ?l25 ?c25 ?k25 ?a26 ?l26 ?c26 ?k26 ?a27 ?l27 ?c27 ?k27 ?a28 ?l28 ?c28 ?k28 ?a29 ?l29 ?c29 ?k29 ?a30 ?l30 ?c30 ?k30 ?a31 ?l31 ?c31 ?k31 ?aM_SI ?lM_SI ?cM_SI ?kM_SI ?lC_SI ?vC_SI ?tT_SI ?nP_SI ?hC_SI ?aM_HE ?lM_HE ?cM_HE ?kM_HE ?lC_HE ?vC_HE ?tT_HE ?nP_HE ?hC_HE ?aM_SU ?lM_SU ?cM_SU ?kM_SU ?lC_SU ?vC_SU ?tT_SU ?nP_SU ?hC_SU ?aM_AL ?lM_AL ?cM_AL ?kM_AL ?lC_AL ?vC_AL ?tT_AL ?nP_AL ?hC_AL ?aM_LW ?lM_LW ?cM_LW ?kM_LW ?lC_LW ?vC_LW ?tT_LW ?nP_LW ?hC_LW ?ne_HE_SI ?ne_SU_SI ?ne_SU_HE ?ne_AL_SI ?ne_AL_HE ?ne_AL_SU ?ne_LW_SI ?ne_LW_HE ?ne_LW_SU ?ne_LW_AL ?z_abs ?z_all ?z_bool ?z_enumerate ?z_int ?z_isinstance ?z_len ?z_list ?z_range ?z_repr ?z_sorted ?z_str ?z_sum ?z_tuple ?z_zip ?gL
    (case aB => k_is)
    (case aC_c => k_is)
    (case xL_c => k_is)
    (case sa_c => k_is)
    (case ga_c => k_is)
    (case gg_c => k_is)
    (case nb_c => k_is)
    (case aI_c => k_is)
    (case tI_c => k_is)
    (case lI_c => k_is)
    (case cI_c => k_is)
    (case kC_c => k_is)
    (case eC_c => k_is)
    (case tC_c => k_is)
    (case hC_c => k_is)
    (case sC_c => first | rfl | k_is)
    (case aC_r => k_is)
    (case xL_r => k_is)
    (case sa_r => k_is)
    (case ga_r => k_is)
    (case gg_r => k_is)
    (case nb_r => k_is)
    (case aI_r => k_is)
    (case tI_r => k_is)
    (case lI_r => k_is)
    (case cI_r => k_is)
    (case kC_r => k_is)
    (case eC_r => k_is)
    (case tC_r => k_is)
    (case hC_r => k_is)
    (case sC_r => first | rfl | k_is)
    (case sRC => k_is)
    (case a0 => k_is)
    (case l0 => k_is)
    (case c0 => k_is)
    (case k0 => k_is)
    (case a1 => k_is)
    (case l1 => k_is)
    (case c1 => k_is)
    (case k1 => k_is)
    (case a2 => k_is)
    (case l2 => k_is)
    (case c2 => k_is)
    (case k2 => k_is)
    (case a3 => k_is)
    (case l3 => k_is)
    (case c3 => k_is)
    (case k3 => k_is)
    (case a4 => k_is)
    (case l4 => k_is)
    (case c4 => k_is)
    (case k4 => k_is)
    (case a5 => k_is)
    (case l5 => k_is)
    (case c5 => k_is)
    (case k5 => k_is)
    (case a6 => k_is)
    (case l6 => k_is)
    (case c6 => k_is)
    (case k6 => k_is)
    (case a7 => k_is)
    (case l7 => k_is)
    (case c7 => k_is)
    (case k7 => k_is)
    (case a8 => k_is)
    (case l8 => k_is)
    (case c8 => k_is)
    (case k8 => k_is)
    (case a9 => k_is)
    (case l9 => k_is)
    (case c9 => k_is)
    (case k9 => k_is)
    (case a10 => k_is)
    (case l10 => k_is)
    (case c10 => k_is)
    (case k10 => k_is)
    (case a11 => k_is)
    (case l11 => k_is)
    (case c11 => k_is)
    (case k11 => k_is)
    (case a12 => k_is)
    (case l12 => k_is)
    (case c12 => k_is)
    (case k12 => k_is)
    (case a13 => k_is)
    (case l13 => k_is)
    (case c13 => k_is)
    (case k13 => k_is)
    (case a14 => k_is)
    (case l14 => k_is)
    (case c14 => k_is)
    (case k14 => k_is)
    (case a15 => k_is)
    (case l15 => k_is)
    (case c15 => k_is)
    (case k15 => k_is)
    (case a16 => k_is)
    (case l16 => k_is)
    (case c16 => k_is)
    (case k16 => k_is)
    (case a17 => k_is)
    (case l17 => k_is)
    (case c17 => k_is)
    (case k17 => k_is)
    (case a18 => k_is)
    (case l18 => k_is)
    (case c18 => k_is)
    (case k18 => k_is)
    (case a19 => k_is)
    (case l19 => k_is)
    (case c19 => k_is)
    (case k19 => k_is)
    (case a20 => k_is)
    (case l20 => k_is)
    (case c20 => k_is)
    (case k20 => k_is)
    (case a21 => k_is)
    (case l21 => k_is)
    (case c21 => k_is)
    (case k21 => k_is)
    (case a22 => k_is)
    (case l22 => k_is)
    (case c22 => k_is)
    (case k22 => k_is)
    (case a23 => k_is)
    (case l23 => k_is)
    (case c23 => k_is)
    (case k23 => k_is)
    (case a24 => k_is)
    (case l24 => k_is)
    (case c24 => k_is)
    (case k24 => k_is)
    (case a25 => k_is)
    (case l25 => k_is)
    (case c25 => k_is)
    (case k25 => k_is)
    (case a26 => k_is)
    (case l26 => k_is)
    (case c26 => k_is)
    (case k26 => k_is)
    (case a27 => k_is)
    (case l27 => k_is)
    (case c27 => k_is)
    (case k27 => k_is)
    (case a28 => k_is)
    (case l28 => k_is)
    (case c28 => k_is)
    (case k28 => k_is)
    (case a29 => k_is)
    (case l29 => k_is)
    (case c29 => k_is)
    (case k29 => k_is)
    (case a30 => k_is)
    (case l30 => k_is)
    (case c30 => k_is)
    (case k30 => k_is)
    (case a31 => k_is)
    (case l31 => k_is)
    (case c31 => k_is)
    (case k31 => k_is)
    (case aM_SI => k_is)
    (case lM_SI => k_is)
    (case cM_SI => k_is)
    (case kM_SI => k_is)
    (case lC_SI => k_is)
    (case vC_SI => rfl)
    (case tT_SI => exact PySem.W.km_tabs_of Y _ (by first | k_mem | simp))
    (case nP_SI => first | rfl | kernel_rfl)
    (case hC_SI => first | rfl | kernel_rfl)
    (case aM_HE => k_is)
    (case lM_HE => k_is)
    (case cM_HE => k_is)
    (case kM_HE => k_is)
    (case lC_HE => k_is)
    (case vC_HE => rfl)
    (case tT_HE => exact PySem.W.km_tabs_of Y _ (by first | k_mem | simp))
    (case nP_HE => first | rfl | kernel_rfl)
    (case hC_HE => first | rfl | kernel_rfl)
    (case aM_SU => k_is)
    (case lM_SU => k_is)
    (case cM_SU => k_is)
    (case kM_SU => k_is)
    (case lC_SU => k_is)
    (case vC_SU => rfl)
    (case tT_SU => exact PySem.W.km_tabs_of Y _ (by first | k_mem | simp))
    (case nP_SU => first | rfl | kernel_rfl)
    (case hC_SU => first | rfl | kernel_rfl)
    (case aM_AL => k_is)
    (case lM_AL => k_is)
    (case cM_AL => k_is)
    (case kM_AL => k_is)
    (case lC_AL => k_is)
    (case vC_AL => rfl)
    (case tT_AL => exact PySem.W.km_tabs_of Y _ (by first | k_mem | simp))
    (case nP_AL => first | rfl | kernel_rfl)
    (case hC_AL => first | rfl | kernel_rfl)
    (case aM_LW => k_is)
    (case lM_LW => k_is)
    (case cM_LW => k_is)
    (case kM_LW => k_is)
    (case lC_LW => k_is)
    (case vC_LW => rfl)
    (case tT_LW => exact PySem.W.km_tabs_of Y _ (by first | k_mem | simp))
    (case nP_LW => first | rfl | kernel_rfl)
    (case hC_LW => first | rfl | kernel_rfl)
    (case ne_HE_SI => first | decide | (intro z; cases z))
    (case ne_SU_SI => first | decide | (intro z; cases z))
    (case ne_SU_HE => first | decide | (intro z; cases z))
    (case ne_AL_SI => first | decide | (intro z; cases z))
    (case ne_AL_HE => first | decide | (intro z; cases z))
    (case ne_AL_SU => first | decide | (intro z; cases z))
    (case ne_LW_SI => first | decide | (intro z; cases z))
    (case ne_LW_HE => first | decide | (intro z; cases z))
    (case ne_LW_SU => first | decide | (intro z; cases z))
    (case ne_LW_AL => first | decide | (intro z; cases z))
    (case z_abs => k_is)
    (case z_all => k_is)
    (case z_bool => k_is)
    (case z_enumerate => k_is)
    (case z_int => k_is)
    (case z_isinstance => k_is)
    (case z_len => k_is)
    (case z_list => k_is)
    (case z_range => k_is)
    (case z_repr => k_is)
    (case z_sorted => k_is)
    (case z_str => k_is)
    (case z_sum => k_is)
    (case z_tuple => k_is)
    (case z_zip => k_is)
    (case gL => k_is)
