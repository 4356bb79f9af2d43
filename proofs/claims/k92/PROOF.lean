import PyProof.Rows.All
import Wide.All
import OpenK.AllK
import Wide.FinOn
import HandS.Codes
import HandS.Comp
import HandS.Conv
import HandS.Deep
import HandS.Defaults
import HandS.Dict
import HandS.DictComp
import HandS.EndOwn
import HandS.Evl
import HandS.ExcField
import HandS.ExcIs
import HandS.ExcOwn
import HandS.ForExc
import HandS.ForMost
import HandS.Gcd
import HandS.IsInst
import HandS.Lambda
import HandS.List
import HandS.MakeKwOnly
import HandS.More
import HandS.NestedK
import HandS.OwnEq
import HandS.Set
import HandS.SetFor
import HandS.SetKeys
import HandS.SetTxt0
import HandS.SortKw
import HandS.Star
import HandS.StrMore
import HandS.Strs
import HandS.Style
import HandS.TryMany
import HandS.TupAny
import HandS.TupMul
import HandS.Wide
import HandS.WordsDict
import HandS.WordsExc
import HandS.Zip
import KE.DatumOrd
import KE.GoesEnum
import KE.GoesMore
import KE.KDictDisplayH
import KE.KDictZip
import KE.KExcInit
import KE.KExcIs
import KE.LtSeq
import KE.SortData
import KE.SortKeyed
import PyProof.CallFns
import PyProof.CallType
import PyProof.RangeIter
import PyProof.ReprLen
import PyProof.ReprReads
import PyProof.ReprRoads
import PyProof.Rows.SortShellAny
import PyProof.RulesTry
import PyProof.TupleOfSeq
import PyProof.Walk
import PyProof.WalkLemmas
import PyProof.ZipIter
import PySem.Challenge.RW_curvebells_k92_whole_namings_coarse_and
set_option Elab.async false
set_option linter.all false
set_option maxRecDepth 100000
set_option maxHeartbeats 16000000
/-! sets of texts, made of a list or tuple; sorted of them -/
namespace St
open PySem PySem.Spec PyProof.Rows L2 PySem.Froz
section
variable {P : Program} {w : World} {A : Around} {E : Value → Shared → Prop} {s : Shared}
/-- the order of a set's walk is known to be some order -/
def Led (w : World) (t : SetTable) : Prop := w.params.followText "set-order" = true ∨ t.led = true
/-- the set of the texts l stands at a -/
def TS (P : Program) (w : World) (h : Heap) (a : Addr) (l : List Str) : Prop := ∃ D, h.get? a = some (sObj "set" D) ∧ TxOk P w D l ∧ Ris D.2.2.place.toList ∧ Led w D.2.2 ∧ l.Nodup
theorem TS.at {h h' : Heap} {a : Addr} {l : List Str} (R : TS P w h a l) (k : ∀ o, h.get? a = some o → h'.get? a = some o) : TS P w h' a l := let ⟨D, e, r⟩ := R; ⟨D, k _ e, r⟩
theorem tail_ris {es : Array (Int × Value)} {t : SetTable} {ep : Nat} {wd : Bool} (r : Ris t.place.toList) : Ris (tailTx ep es t wd).2.2.place.toList := by
  unfold tailTx
  by_cases c : (!wd && t.tooFull) = true
  · rw [if_pos c]; exact relayAll_ris _ _ _
  · rw [if_neg c]; exact r
theorem tail_led {es : Array (Int × Value)} {t : SetTable} {ep : Nat} {wd : Bool} (r : t.led = true) : (tailTx ep es t wd).2.2.led = true := by
  unfold tailTx
  by_cases c : (!wd && t.tooFull) = true
  · rw [if_pos c]; exact (relayAll_led _ _ _).trans r
  · rw [if_neg c]; exact r
theorem addTx_ris {D : SD} {n : Int} {v : Value} (r : Ris D.2.2.place.toList) : Ris (addTx n v D).2.2.place.toList := by
  have r1 := layNew_ris D.2.2 D.1 n v r
  unfold addTx
  refine tail_ris ?_
  by_cases c : (layNew D.2.2 D.1 n v).2.1.plain = true
  · rw [if_pos c]; exact r1
  · rw [if_neg c]; exact r1
theorem addTx_led {D : SD} {n : Int} {v : Value} (r : Led w D.2.2) : Led w (addTx n v D).2.2 := by
  rcases r with r | r
  · exact .inl r
  · have l1 : (layNew D.2.2 D.1 n v).2.1.led = true := (layNew_led _ _ _ _).trans r
    refine .inr ?_
    unfold addTx
    refine tail_led ?_
    by_cases c : (layNew D.2.2 D.1 n v).2.1.plain = true
    · rw [if_pos c]; exact l1
    · rw [if_neg c]; exact l1
/-- add of a text that is in already -/
theorem had_x {a : Addr} {D : SD} {l : List Str} {k : Str} {u : Tok} {Q : Bool → Shared → Prop} (ho : s.heap.get? a = some (sObj "set" D)) (F : TxOk P w D l) (hk : k ∈ l) (hb : l.length < scanBound)
    (q : Q false s) : wpAny (model P w) A (setAddHashed a (.str k u) (hashStr w k)) Q E s := by
  obtain ⟨es, ep, t⟩ := D
  have small : es.size < scanBound := by rw [show es.size = l.length from F.sz]; exact hb
  obtain ⟨e, he, ie⟩ := (F.mem k).mp hk
  unfold setAddHashed setAddHashedIn
  refine wpAny_holding (wpAny_bind (wpAny_setState_of ho (rfl : (sObj "set" (es, ep, t)).data = .set es ep t) F.fit ?_)); dsimp only
  rw [byScan_of rfl small F.el, if_pos rfl]; unfold setAddByScan
  refine wpAny_bind (wpAny_bind (wpAny_rule (wpAny_bind (wpAny_setScan_of (knd := strKind P w) (is_str k u) ho rfl F.fit F.el ?_))))
  cases hr : es.toList.findIdx? (fun e => (strKind P w).is k e.2) with
  | some j => exact wpAny_pure (wpAny_pure q)
  | none => exact absurd ie (by rw [List.findIdx?_eq_none_iff.mp hr e he]; decide)
theorem ts_add {a : Addr} {l : List Str} {k : Str} {u : Tok} {Q : Bool → Shared → Prop} (R : TS P w s.heap a l) (hb : l.length + 1 < scanBound)
    (q : ∀ h' b, Heap.SameBut a s.heap h' → TS P w h' a (if k ∈ l then l else k :: l) → Q b { s with heap := h' }) : wpAny (model P w) A (setAddHashed a (.str k u) (hashStr w k)) Q E s := by
  obtain ⟨D, e, F, r, ld, nd⟩ := R
  by_cases hk : k ∈ l
  · exact had_x e F hk (by omega) (q s.heap false (Heap.SameBut.refl a s.heap) ⟨D, e, by rw [if_pos hk]; exact F, r, ld, by rw [if_pos hk]; exact nd⟩)
  · refine add_x e F hk hb (q _ true (Heap.SameBut.update s.heap a _) ⟨_, get_upd _ e rfl, ?_, addTx_ris r, addTx_led ld, ?_⟩)
    · rw [if_neg hk]; exact add_ok u F
    · rw [if_neg hk]; exact List.nodup_cons.mpr ⟨hk, nd⟩
/-- S.update(it), texts -/
theorem upd_texts {I : Addr} {fp wr : List Addr} {G : Array GenState → Array GenState → Prop} {n : Nat} {Pv : Nat → Value → Prop} {St : Nat → Shared → Prop} {R : Result → Shared → Prop}
    (W : WalksS P w A.in1 I fp wr G n Pv St) {S : Addr} (hS : S ∉ fp) {xs : List Str} (hn : n = xs.length) (hb : xs.length + 1 < scanBound) (hv : ∀ i v, Pv i v → ∃ x t, xs[i]? = some x ∧ v = .str x t) :
    ∀ (k i : Nat) (s : Shared) (l : List Str), n - i = k → i ≤ n → St i s → TS P w s.heap S l → l.length ≤ i → (∀ x, x ∈ l ↔ x ∈ xs.take i) →
      (∀ s' m, Moved (S :: wr) G s s' → TS P w s'.heap S m → m.length ≤ n → (∀ x, x ∈ m ↔ x ∈ xs) → R (.ok (.ret .none)) s') →
      codeAny (model P w) A (.builtin "set.update.loop" ⟨[.ref S, .ref I], []⟩) R s := by
  have sw : S ∉ wr := fun z => hS (W.sub S z)
  have wide : ∀ {s s' : Shared}, Moved wr G s s' → Moved (S :: wr) G s s' := fun m => m.mono fun b z => List.mem_cons_of_mem S z
  intro k
  induction k with
  | zero =>
    intro i s l e1 e2 st hT hl hm q
    obtain rfl : i = n := by omega
    refine codeAny_builtin F.entry_set_update_loop ?_
    rw [Around.under_plainId F.plain_set_update_loop _]
    refine wpAny_bind (m := pyNext (.ref I)) (W.done s _ _ st fun s' mv => ?_)
    refine wpAny_pure (q s' l (wide mv) (hT.at fun o e => mv.heap S o sw e) hl fun x => ?_)
    rw [hm x, List.take_of_length_le (by omega)]
  | succ k ih =>
    intro i s l e1 e2 st hT hl hm q
    have hi : i < n := by omega
    refine codeAny_builtin F.entry_set_update_loop ?_
    rw [Around.under_plainId F.plain_set_update_loop _]
    refine wpAny_bind (m := pyNext (.ref I)) (W.item i s _ _ hi st fun v s1 pv st1 mv => ?_)
    obtain ⟨x, t, ex, rfl⟩ := hv i v pv
    refine wpAny_bind (m := holding [Value.str x t] (setAdd S (.str x t))) (wpAny_holding ?_)
    unfold setAdd
    refine wpAny_holding (wpAny_bind ((strKind P w).pyHash (is_str (P := P) (w := w) x t) ?_))
    refine ts_add (s := { s1 with toks := s1.toks + 1 }) (hT.at fun o e => mv.heap S o sw e) (by omega) fun h' _ sb hT' => ?_
    have back : ∀ b o, b ≠ S → s1.heap.get? b = some o → h'.get? b = some o := fun b o ne e => (sb.2 b ne).trans e
    refine wpAny_pure ⟨plainId_quiet F.plain_set_update_loop _, ih (i + 1) _ _ (by omega) hi (W.frame _ s1 _ _ st1 (Nat.le_succ _) fun b z o e => back b o (fun y => hS (y ▸ z)) e) hT' ?_ (fun y => ?_) fun s2 m mv2 hT2 hl2 hm2 => ?_⟩
    · split
      · omega
      · rw [List.length_cons]; omega
    · rw [List.take_add_one, ex, List.mem_append, ← hm y]
      show _ ↔ _ ∨ y ∈ [x]
      rw [List.mem_singleton]
      split
      · exact ⟨.inl, fun z => z.elim id fun z => z ▸ (by assumption)⟩
      · rw [List.mem_cons]; exact Or.comm
    · exact q s2 m (Moved.trans W.gtrans ((wide mv).then_heap (Nat.le_succ _) fun b o z e => back b o (fun y => z (y ▸ List.mem_cons_self)) e) mv2) hT2 hl2 hm2
end
end St

namespace St
open PySem PySem.Spec PyProof.Rows L2 PySem.Froz
/-- a new set -/
abbrev S0 (w : World) : Obj := { cls := .type "set", dict := none, data := .set #[] 0 (.fresh 0 0 (!w.params.followText "set-order")) }
section
variable {P : Program} {w : World} {A : Around} {E : Value → Shared → Prop} {s : Shared}
set_option maxHeartbeats 16000000 in
/-- set(x), x a list or a tuple at l: its loop told by `loop` -/
theorem set_call {l : Addr} {T : String} {ol itO : Obj} {Res : Heap → Prop} {Q : Value → Shared → Prop} (hh : A.handled = none) (hol : s.heap.get? l = some ol) (hcl : ol.cls = .type T)
    (n1 : isSubtype (.type T) (.type "set") = pure false) (n2 : isSubtype (.type T) (.type "frozenset") = pure false) (n3 : (Value.type T == Value.type "dict") = false)
    (itr : ∀ {A : Around} {E : Value → Shared → Prop} {s1 : Shared} {Q : Value → Shared → Prop}, s1.heap.get? l = some ol → Q (.ref s1.heap.objs.size) { s1 with heap := s1.heap.push itO } → wpAny (model P w) A (pyIter (.ref l)) Q E s1)
    (loop : ∀ (A' : Around) (R : Result → Shared → Prop) (tk : Tok), A'.handled = none →
      (∀ h' tk', Res h' → (∀ b o, s.heap.get? b = some o → h'.get? b = some o) → R (.ok (.ret .none)) { s with heap := h', toks := tk' }) →
      codeAny (model P w) A' (.builtin "set.update.loop" ⟨[.ref s.heap.objs.size, .ref (s.heap.push (S0 w)).objs.size], []⟩) R { s with heap := (s.heap.push (S0 w)).push itO, toks := tk })
    (q : ∀ h' tk, Res h' → (∀ b o, s.heap.get? b = some o → h'.get? b = some o) → Q (.ref s.heap.objs.size) { s with heap := h', toks := tk }) :
    wpAny (model P w) A (call (.type "set") [.ref l]) Q E s := by
  obtain ⟨_, _, mro⟩ := F.called_set.mro; have made := F.called_set.made; have sub := F.called_set.sub; have k1 := F.called_set.notType; have k2 := F.called_set.canCreate; have ct := F.typeCall_set_1 (.ref l)
  refine wpAny_call (codeAny_of_tree ?_); show wpAny _ _ (callAny (.type "set") _) _ _ _
  refine wpAny_pure ⟨Code.quiet_builtin _ (by decide +kernel), codeAny_builtin F.entry_type_call ?_⟩; rw [Around.under_plain (weight_type_call_type "set" [.ref l] []) rfl]
  repeat any_goals first | assumption | wp_step
  refine codeAny_mono (code_set_led1 (.ref l) (E := E) (Q₁ := fun o s1 => o = .ref s.heap.objs.size ∧ s1 = { s with heap := s.heap.push (S0 w) }) ⟨rfl, rfl⟩) fun r s1 hr => ?_
  rcases r with e | (_ | _ | _ | o)
  · exact hr
  · exact hr.elim
  · exact hr.elim
  · exact hr.elim
  · obtain ⟨rfl, rfl⟩ := hr
    have hS : (s.heap.push (S0 w)).get? s.heap.objs.size = some (S0 w) := Heap.get?_push_size _ rfl
    have hT : Shared.TypeIs { s with heap := s.heap.push (S0 w) } (.ref s.heap.objs.size) "set" := ⟨_, hS, rfl⟩
    have il := F.called_set.init.lookup; have ib := F.called_set.init.bind (.ref s.heap.objs.size)
    repeat any_goals first | assumption | wp_step
    refine codeAny_mono (codeAny_call_builtin (R := wants (fun r s2 => r = .none ∧ ∃ h' tk, s2 = { s with heap := h', toks := tk } ∧ Res h' ∧ (∀ b o, s.heap.get? b = some o → h'.get? b = some o)) E) F.called_set.init.plain F.entry_set_init (check_set_init_1 hT ?_)) fun r2 s2 h2 => ?_
    · have e1 : (s.heap.push (S0 w)).get? l = some ol := Heap.get?_push_of_some _ hol
      have hTl : Shared.TypeIs { s with heap := s.heap.push (S0 w) } (.ref l) T := ⟨ol, e1, hcl⟩
      unfold Builtin.«set.__init__» noKeywords Builtin.Frozenset.updateFrom
      generalize hI : pyIter = PI
      obtain ⟨c, d, da, sl⟩ := ol
      dsimp only at hcl
      subst hcl
      wp_walk
      subst hI
      refine itr e1 (wpAny_bind (wpAny_runValue (loop _ _ _ (by simp [hh]) fun h' tk r k => ?_)))
      exact wpAny_pure (wpAny_pure ⟨rfl, h', tk, rfl, r, k⟩)
    · rcases r2 with e | (_ | _ | _ | o)
      · exact h2
      · exact h2.elim
      · exact h2.elim
      · exact h2.elim
      · obtain ⟨rfl, h', tk, rfl, r, k⟩ := h2
        repeat any_goals first | assumption | wp_step
        exact q _ _ r k
end
end St

namespace St
open PySem PySem.Spec PyProof.Rows L2 PySem.Froz
section
variable {P : Program} {w : World} {A : Around} {E : Value → Shared → Prop} {s : Shared}
theorem lkp {h : Heap} {o o' : Obj} {b : Addr} {u : Obj} (e : h.get? b = some u) : ((h.push o).push o').get? b = some u := Heap.get?_push_of_some _ (Heap.get?_push_of_some _ e)
/-- what the loop of the update leaves -/
theorem moved_end {s s' : Shared} {h1 : Heap} {tk : Tok} {S I : Addr} (hS : S = s.heap.objs.size) (hI : s.heap.objs.size ≤ I) (old : ∀ b o, s.heap.get? b = some o → h1.get? b = some o)
    (m : Moved [S, I] (fun a b => b = a) { s with heap := h1, toks := tk } s') : s' = { s with heap := s'.heap, toks := s'.toks } ∧ ∀ b o, s.heap.get? b = some o → s'.heap.get? b = some o := by
  refine ⟨?_, fun b o e => m.heap b o (fun z => ?_) (old b o e)⟩
  · have g := m.gens
    have d := m.drawn
    have os := m.os
    cases s'
    dsimp only at g d os ⊢
    rw [g, d, os]
  · have lt := Heap.lt_size e
    rcases List.mem_cons.mp z with z | z
    · exact absurd lt (by rw [z, hS]; exact Nat.lt_irrefl _)
    · exact absurd lt (by rw [List.mem_singleton.mp z]; exact Nat.not_lt_of_le hI)
theorem places {l : Addr} (lt : l < s.heap.objs.size) : l ≠ (s.heap.push (S0 w)).objs.size ∧ s.heap.objs.size ∉ [(s.heap.push (S0 w)).objs.size, l] ∧ s.heap.objs.size ≤ (s.heap.push (S0 w)).objs.size := by
  rw [Heap.size_push]
  refine ⟨Nat.ne_of_lt (Nat.lt_succ_of_lt lt), fun z => ?_, Nat.le_succ _⟩
  rcases List.mem_cons.mp z with z | z
  · exact absurd z (Nat.ne_of_lt (Nat.lt_succ_self _))
  · exact absurd (List.mem_singleton.mp z) (Nat.ne_of_gt lt)
/-- set(x), texts, x a list or a tuple -/
theorem set_texts {l : Addr} {its : Array Value} {xs : List Str} {Q : Value → Shared → Prop} (hh : A.handled = none) (hl : s.heap.IsList l its ∨ s.heap.IsTuple l its) (hx : StrsAre its.toList xs) (hb : xs.length + 1 < scanBound)
    (q : ∀ h' tk m, TS P w h' s.heap.objs.size m → m.length ≤ xs.length → (∀ x, x ∈ m ↔ x ∈ xs) → (∀ b o, s.heap.get? b = some o → h'.get? b = some o) → Q (.ref s.heap.objs.size) { s with heap := h', toks := tk }) :
    wpAny (model P w) A (call (.type "set") [.ref l]) Q E s := by
  have len : its.size = xs.length := by rw [← Array.length_toList]; exact hx.len_eq
  have val : ∀ i v, its[i]? = some v → ∃ x t, xs[i]? = some x ∧ v = Value.str x t := fun i v e => by
    rw [← Array.getElem?_toList] at e
    have hi : i < xs.length := by rw [← hx.len_eq]; exact (List.getElem?_eq_some_iff.mp e).1
    obtain ⟨t, et⟩ := hx.at (List.getElem?_eq_getElem hi)
    exact ⟨xs[i], t, List.getElem?_eq_getElem hi, Option.some.inj (e.symm.trans et)⟩
  have fin : ∀ (I : Addr), I = (s.heap.push (S0 w)).objs.size → I = s.heap.objs.size + 1 := fun I e => e.trans (Heap.size_push ..)
  have start : ∀ o', TS P w ((s.heap.push (S0 w)).push o') s.heap.objs.size [] := fun o' =>
    ⟨(#[], 0, .fresh 0 0 (!w.params.followText "set-order")), Heap.get?_push_of_some _ (Heap.get?_push_size _ rfl), TxOk.nil rfl, List.Pairwise.nil, by
      show _ ∨ (!w.params.followText "set-order") = true
      cases w.params.followText "set-order" <;> simp, List.nodup_nil⟩
  rcases hl with ⟨ol, e, c, n, d⟩ | ⟨ol, e, c, n, d⟩
  · refine set_call (Res := fun h' => ∃ m, TS P w h' s.heap.objs.size m ∧ m.length ≤ xs.length ∧ ∀ x, x ∈ m ↔ x ∈ xs) hh e c F.sub_list_set F.sub_list_frozenset (by decide) (fun {_ _ s1 _} e1 h => wpAny_pyIter_list (s := s1) ⟨ol, e1, c, n, d⟩ h) (fun A' R tk ha hR => ?_) fun h' tk ⟨m, r1, r2, r3⟩ k => q h' tk m r1 r2 r3 k
    have lt := Heap.lt_size e
    obtain ⟨ne, nin, up⟩ := places (w := w) lt
    refine upd_texts (s := { s with heap := (s.heap.push (S0 w)).push _, toks := tk }) ((Walks.list (A := A'.in1) (by simpa using ha) _ l ne its).toS) (S := s.heap.objs.size) nin len hb val (its.size - 0) 0 [] (by omega) (Nat.zero_le _)
      ⟨⟨_, Heap.get?_push_size _ rfl, rfl, rfl⟩, ⟨ol, lkp e, c, n, d⟩⟩ (start _) (Nat.zero_le _) (fun x => by simp) fun s' m mv r1 r2 r3 => ?_
    obtain ⟨es, k⟩ := moved_end rfl up (fun b o z => lkp z) mv
    rw [es]
    exact hR _ _ ⟨m, r1, by omega, r3⟩ k
  · refine set_call (Res := fun h' => ∃ m, TS P w h' s.heap.objs.size m ∧ m.length ≤ xs.length ∧ ∀ x, x ∈ m ↔ x ∈ xs) hh e c F.sub_tuple_set F.sub_tuple_frozenset (by decide) (fun {_ _ s1 _} e1 h => wpAny_pyIter_tuple (s := s1) ⟨ol, e1, c, n, d⟩ h) (fun A' R tk ha hR => ?_) fun h' tk ⟨m, r1, r2, r3⟩ k => q h' tk m r1 r2 r3 k
    have lt := Heap.lt_size e
    obtain ⟨ne, nin, up⟩ := places (w := w) lt
    refine upd_texts (s := { s with heap := (s.heap.push (S0 w)).push _, toks := tk }) ((Walks.tuple (A := A'.in1) (by simpa using ha) _ l ne its).toS) (S := s.heap.objs.size) nin len hb val (its.size - 0) 0 [] (by omega) (Nat.zero_le _)
      ⟨⟨_, Heap.get?_push_size _ rfl, rfl, rfl⟩, ⟨ol, lkp e, c, n, d⟩⟩ (start _) (Nat.zero_le _) (fun x => by simp) fun s' m mv r1 r2 r3 => ?_
    obtain ⟨es, k⟩ := moved_end rfl up (fun b o z => lkp z) mv
    rw [es]
    exact hR _ _ ⟨m, r1, by omega, r3⟩ k
/-- set(x), ints, x a list or a tuple -/
theorem set_ints {l : Addr} {its : Array Value} {xs : List Int} {Q : Value → Shared → Prop} (hh : A.handled = none) (hl : s.heap.IsList l its ∨ s.heap.IsTuple l its) (hx : IntsAre its.toList xs) (hb : xs.length + 1 < scanBound)
    (q : ∀ h' tk c, SetR w h' s.heap.objs.size (fun j => decide (j ∈ xs)) c → c ≤ xs.length → (∀ b o, s.heap.get? b = some o → h'.get? b = some o) → Q (.ref s.heap.objs.size) { s with heap := h', toks := tk }) :
    wpAny (model P w) A (call (.type "set") [.ref l]) Q E s := by
  have len : its.size = xs.length := by rw [← Array.length_toList]; exact hx.length
  have val : ∀ i v, its[i]? = some v → ∃ k t, xs[i]? = some k ∧ v = Value.int k t := fun i v e => by
    have hi : i < xs.length := by rw [← len]; exact (Array.getElem?_eq_some_iff.mp e).1
    obtain ⟨t, et⟩ := IntsAre.int_at hx i v (by rw [Array.getElem?_toList]; exact e)
    exact ⟨xs[i], t, List.getElem?_eq_getElem hi, by rw [et, List.getD_eq_getElem?_getD, List.getElem?_eq_getElem hi] <;> rfl⟩
  have start : ∀ o', SetR w ((s.heap.push (S0 w)).push o') s.heap.objs.size (fun j => decide (j ∈ xs.take 0)) 0 := fun o' => setR_new_at (Heap.get?_push_of_some _ (Heap.get?_push_size _ rfl))
  rcases hl with ⟨ol, e, c, n, d⟩ | ⟨ol, e, c, n, d⟩
  · refine set_call (Res := fun h' => ∃ c, SetR w h' s.heap.objs.size (fun j => decide (j ∈ xs)) c ∧ c ≤ xs.length) hh e c F.sub_list_set F.sub_list_frozenset (by decide) (fun {_ _ s1 _} e1 h => wpAny_pyIter_list (s := s1) ⟨ol, e1, c, n, d⟩ h) (fun A' R tk ha hR => ?_) fun h' tk ⟨m, r1, r2⟩ k => q h' tk m r1 r2 k
    have lt := Heap.lt_size e
    obtain ⟨ne, nin, up⟩ := places (w := w) lt
    refine set_update_ints (s := { s with heap := (s.heap.push (S0 w)).push _, toks := tk }) ((Walks.list (A := A'.in1) (by simpa using ha) _ l ne its).toS) s.heap.objs.size nin xs len hb val (its.size - 0) 0 (by omega) (Nat.zero_le _)
      ⟨⟨_, Heap.get?_push_size _ rfl, rfl, rfl⟩, ⟨ol, lkp e, c, n, d⟩⟩ ⟨0, Nat.le_refl 0, start _⟩ fun s' c' mv r2 r1 => ?_
    obtain ⟨es, k⟩ := moved_end rfl up (fun b o z => lkp z) mv
    rw [es]
    exact hR _ _ ⟨c', r1, by omega⟩ k
  · refine set_call (Res := fun h' => ∃ c, SetR w h' s.heap.objs.size (fun j => decide (j ∈ xs)) c ∧ c ≤ xs.length) hh e c F.sub_tuple_set F.sub_tuple_frozenset (by decide) (fun {_ _ s1 _} e1 h => wpAny_pyIter_tuple (s := s1) ⟨ol, e1, c, n, d⟩ h) (fun A' R tk ha hR => ?_) fun h' tk ⟨m, r1, r2⟩ k => q h' tk m r1 r2 k
    have lt := Heap.lt_size e
    obtain ⟨ne, nin, up⟩ := places (w := w) lt
    refine set_update_ints (s := { s with heap := (s.heap.push (S0 w)).push _, toks := tk }) ((Walks.tuple (A := A'.in1) (by simpa using ha) _ l ne its).toS) s.heap.objs.size nin xs len hb val (its.size - 0) 0 (by omega) (Nat.zero_le _)
      ⟨⟨_, Heap.get?_push_size _ rfl, rfl, rfl⟩, ⟨ol, lkp e, c, n, d⟩⟩ ⟨0, Nat.le_refl 0, start _⟩ fun s' c' mv r2 r1 => ?_
    obtain ⟨es, k⟩ := moved_end rfl up (fun b o z => lkp z) mv
    rw [es]
    exact hR _ _ ⟨c', r1, by omega⟩ k
end
end St

namespace St
open PySem PySem.Spec PyProof.Rows L2 PySem.Froz
/-- the set of the texts m -/
def SetT (P : Program) (w : World) (a : Addr) (m : List Str) : HO := .ext fun h => TS P w h a m
theorem setT_new {P : Program} {w : World} {H : Hp} {h : Heap} {a : Addr} {m : List Str} (R : TS P w h a m) : ObjOk P w H h a (SetT P w a m) := by
  have ⟨D, e, _⟩ := R
  exact ⟨R, ⟨_, e⟩, fun h1 h2 p k => TS.at p k⟩
section
variable {X : Cx}
/-- what a list or a tuple holds -/
def SqX (K : PySem.W.Frag) (H : Hp) (a : Addr) (xs : List V) : Prop := SqL K H a xs ∨ SqT K H a xs
theorem inv_any {pins : List (Addr × Obj)} {σ : L2.St} {H : Hp} {s : Shared} {a : Addr} {xs : List V} (I : Inv X pins σ H s) (h : SqX X.K H a xs) : ∃ its : List Value, Vals xs its ∧ (s.heap.IsList a its.toArray ∨ s.heap.IsTuple a its.toArray) := by
  rcases h with h | h
  · obtain ⟨its, r, l, _⟩ := I.list h
    exact ⟨its, r, .inl l.isList⟩
  · obtain ⟨its, r, l, _⟩ := I.tuple h
    exact ⟨its, r, .inr l⟩
def rSetT (K : PySem.W.Frag) (P : Program) (w : World) : List V → Hp → VK → Prop := fun xs H Q => ∃ (l : Addr) (ns : List Str), xs = [.ref l] ∧ SqX K H l (ns.map V.str) ∧ ns.length ≤ 1000 ∧
  ∀ a m, H a = none → m.Nodup → m.length ≤ ns.length → (∀ x, x ∈ m ↔ x ∈ ns) → Q (.ref a) (upd H a (SetT P w a m))
theorem cr_setT (hc : X.calm = true) : CallR X (.type "set") (rSetT X.K X.prog X.w) := by
  intro pins s σ H xs us Q I r h
  obtain ⟨l, ns, rfl, hl, hb, q⟩ := h
  rw [Vals.ref1 r]
  obtain ⟨its, rv, hi⟩ := inv_any I hl
  refine set_texts (xs := ns) (I.ok.hd hc) hi (by simpa using rv.strs) (Nat.lt_of_le_of_lt (Nat.succ_le_succ hb) (by decide)) fun h' tk m R ml mm k => ?_
  obtain ⟨D, e, F, a3, a4, nd⟩ := id R
  exact ⟨.ref s.heap.objs.size, _, I.laid (t' := tk) k (Nat.le_refl _) (setT_new R), rfl, q _ m (I.hok.fresh (Nat.le_refl _)) nd ml mm⟩
def rSetI (K : PySem.W.Frag) (w : World) : List V → Hp → VK → Prop := fun xs H Q => ∃ (l : Addr) (ns : List Int), xs = [.ref l] ∧ SqX K H l (ns.map V.int) ∧ ns.length ≤ 1000 ∧
  ∀ a c, H a = none → c ≤ ns.length → Q (.ref a) (upd H a (SetO w a (fun j => decide (j ∈ ns)) c))
theorem cr_setI (hc : X.calm = true) : CallR X (.type "set") (rSetI X.K X.w) := by
  intro pins s σ H xs us Q I r h
  obtain ⟨l, ns, rfl, hl, hb, q⟩ := h
  rw [Vals.ref1 r]
  obtain ⟨its, rv, hi⟩ := inv_any I hl
  refine set_ints (xs := ns) (I.ok.hd hc) hi (by simpa using ints_of_vals rv) (Nat.lt_of_le_of_lt (Nat.succ_le_succ hb) (by decide)) fun h' tk c R cl k => ?_
  exact ⟨.ref s.heap.objs.size, _, I.laid (t' := tk) k (Nat.le_refl _) (setO_new R), rfl, q _ c (I.hok.fresh (Nat.le_refl _)) cl⟩
/-- sorted of a set of texts -/
def rSortT (P : Program) (w : World) : List V → Hp → VK → Prop := fun xs H Q => ∃ (a : Addr) (m : List Str), xs = [.ref a] ∧ H a = some (SetT P w a m) ∧ m.length ≤ 1000 ∧
  ∀ ys p, ys.Perm m → sortedS ys = true → H p = none → Q (.ref p) (upd H p (.lst (ys.map V.str)))
theorem strs_of : ∀ l : List Value, (∀ v ∈ l, ∃ x t, v = Value.str x t) → ∃ xs, StrsAre l xs
  | [], _ => ⟨[], .nil⟩
  | v :: l, h => by
    obtain ⟨x, t, rfl⟩ := h v List.mem_cons_self
    obtain ⟨xs, r⟩ := strs_of l fun u hu => h u (List.mem_cons_of_mem _ hu)
    exact ⟨x :: xs, .cons x t r⟩
theorem strs_vals : ∀ {l : List Value} {xs : List Str}, StrsAre l xs → ∀ x, x ∈ xs ↔ ∃ t, Value.str x t ∈ l
  | _, _, .nil => fun x => by simp
  | _, _, .cons y t r => fun x => by
    rw [List.mem_cons, strs_vals r x]
    constructor
    · rintro (rfl | ⟨u, hu⟩)
      · exact ⟨t, List.mem_cons_self⟩
      · exact ⟨u, List.mem_cons_of_mem _ hu⟩
    · rintro ⟨u, hu⟩
      rcases List.mem_cons.mp hu with z | z
      · cases z; exact .inl rfl
      · exact .inr ⟨u, z⟩
theorem perm_of : ∀ {b a : List Str}, b.Nodup → a.length = b.length → (∀ x, x ∈ b → x ∈ a) → a.Perm b
  | [], a, _, hl, _ => by
    obtain rfl : a = [] := List.length_eq_zero_iff.mp hl
    exact .refl _
  | x :: b, a, nd, hl, h => by
    obtain ⟨n1, n2⟩ := List.nodup_cons.mp nd
    have hx : x ∈ a := h x List.mem_cons_self
    have pe := List.perm_cons_erase hx
    refine pe.trans (.cons x (perm_of n2 ?_ fun y hy => ?_))
    · have := pe.length_eq
      rw [List.length_cons] at this hl
      omega
    · have ne : y ≠ x := fun z => n1 (z ▸ hy)
      exact (List.mem_erase_of_ne ne).mpr (h y (List.mem_cons_of_mem _ hy))
theorem cr_sortT (hc : X.calm = true) : CallR X (.builtin "sorted") (rSortT X.prog X.w) := by
  intro pins s σ H xs us Q I r h
  obtain ⟨a, m, rfl, ha, hb, q⟩ := h
  rw [Vals.ref1 r]
  obtain ⟨⟨es, ep, t⟩, e, F, ris, led, nd⟩ := id (show TS X.prog X.w s.heap a m from (I.hok a _ ha).1)
  have sz : es.size = m.length := F.sz
  have room : es.size < scanBound := by rw [sz]; exact Nat.lt_of_le_of_lt hb (by decide)
  refine Calls.call_function_entry kind_sorted plain_sorted entry_sorted (args_sorted1 _) ?_; unfold Builtin.«sorted»
  refine wpAny_bind (m := checkCount "sorted" 1 1 _) (wpAny_pure (wpAny_bind (collect_set (A := X.A.in1) (I.ok.hd hc) ⟨_, e, rfl, rfl⟩ F.fit room ris led fun s1 vs k1 z1 g1 o1 pm => ?_)))
  have vl : vs.length = m.length := by rw [pm.length_eq, List.length_map, Array.length_toList, sz]
  obtain ⟨ss, hS⟩ := strs_of vs fun v hv => by
    obtain ⟨x, hx, rfl⟩ := List.mem_map.mp (pm.mem_iff.mp hv)
    obtain ⟨⟨k, hk, _⟩, _⟩ := F.el x hx
    obtain ⟨u, hu⟩ := Value.isStrOf_shape (show Value.isStrOf k x.2 = true from hk)
    exact ⟨k, u, hu⟩
  have sm : ss.Perm m := perm_of nd (by rw [← hS.len_eq, vl]) fun x hx => by
    obtain ⟨y, hy, hk⟩ := (F.mem x).mp hx
    obtain ⟨u, hu⟩ := Value.isStrOf_shape (show Value.isStrOf x y.2 = true from hk)
    exact (strs_vals hS x).mpr ⟨u, hu ▸ pm.mem_iff.mpr (List.mem_map.mpr ⟨y, hy, rfl⟩)⟩
  have line : vs.length ≤ sizeLine := by rw [vl, sizeLine_eq]; omega
  refine wpAny_bind (wpAny_newList ?_ line)
  have hoL : (s1.heap.push (seqObj "list" vs.toArray 0)).get? s1.heap.objs.size = some (seqObj "list" vs.toArray 0) := Heap.get?_push_size _ rfl
  refine wpAny_bind (wpAny_holding (wpAny_call_entry PyProof.Rows.slot_list_sort ⟨_, hoL, rfl⟩ PyProof.Rows.entry_list_sort (list_sort_treeKAny strKind_oneLt hoL hS.keysOf (fun v1 v2 rest z => keyKind_strs (by rw [← z]; exact hS)) line fun st hp hs => ⟨_, rfl, ?_⟩) (PyProof.Rows.args_list_sort _)))
  obtain ⟨ys, y1, y2, y3⟩ := sorted_out_str hS hp hs
  obtain ⟨c, hcx⟩ := sortedHeap_at (vs := vs) (out := (arrOf st).map (·.2)) hoL
  have old : ∀ b u, s.heap.get? b = some u → (sortedHeap (s1.heap.push (seqObj "list" vs.toArray 0)) s1.heap.objs.size vs ((arrOf st).map (·.2))).get? b = some u := fun b u eb => by
    have q1 := k1 b u eb
    rw [sortedHeap_old (Nat.ne_of_lt (Heap.lt_size q1)) (by rw [size_push']; exact Nat.lt_succ_of_lt (Heap.lt_size q1))]
    exact Heap.get?_push_of_some _ q1
  have zl : (ys.map V.str).length ≤ sizeLine := by rw [List.length_map, (y2.trans sm).length_eq, sizeLine_eq]; omega
  have hn : H s1.heap.objs.size = none := I.hok.fresh z1
  have J : Inv X pins σ (upd H s1.heap.objs.size (.lst (ys.map V.str))) { s with heap := sortedHeap (s1.heap.push (seqObj "list" vs.toArray 0)) s1.heap.objs.size vs ((arrOf st).map (·.2)), gens := s1.gens, drawn := s1.drawn, toks := s1.toks } :=
    I.call (ch := []) (Un.laid old z1 hn) (I.hok.laid old z1 ⟨zl, ((arrOf st).map (·.2)).toList, c, vals_of_strs y1, hcx⟩) (by rw [g1]; exact I.bare) (fun _ z => nomatch z)
  refine wpAny_pure ⟨_, rfl, .ref s1.heap.objs.size, _, ?_, rfl, q ys _ (y2.trans sm) y3 hn⟩
  cases s1; cases s; dsimp only at o1; subst o1
  exact J
end
end St

namespace Hb
open PySem PySem.Spec PyProof.Rows L2
/-! ### heaps -/
theorem same_new {H : Hp} {p : Addr} (h : H p = none) (o : HO) : Same H (upd H p o) := fun b u q => by
  rw [upd_ne (ne_of_none q h)]
  exact q
/-- a new object -/
theorem new_at {H : Hp} {p : Addr} {o : HO} {G : Hp → Prop} (h : H p = none) (k : ∀ H', Same H H' → H' p = some o → G H') : G (upd H p o) := k _ (same_new h o) upd_same
/-- a new tuple, a new list as the value of a display -/
theorem tup_at {H : Hp} {xs : List V} {Q : VK} (hl : xs.length ≤ 1000) (k : ∀ p H', H p = none → Same H H' → H' p = some (.tup xs) → Q (.ref p) H') : xs.length ≤ sizeLine ∧ ∀ p, H p = none → Q (.ref p) (upd H p (.tup xs)) :=
  ⟨Nat.le_trans hl (by decide), fun p hp => k p _ hp (same_new hp _) upd_same⟩
theorem lst_at {H : Hp} {xs : List V} {Q : VK} (hl : xs.length ≤ 1000) (k : ∀ p H', H p = none → Same H H' → H' p = some (.lst xs) → Q (.ref p) H') : xs.length ≤ sizeLine ∧ ∀ p, H p = none → Q (.ref p) (upd H p (.lst xs)) :=
  ⟨Nat.le_trans hl (by decide), fun p hp => k p _ hp (same_new hp _) upd_same⟩
/-- all but the object at p is as it was -/
def Kept (p : Addr) (H H' : Hp) : Prop := ∀ b o, H b = some o → b ≠ p → H' b = some o
theorem Same.kept {H H' : Hp} {p : Addr} (h : Same H H') : Kept p H H' := fun b o e _ => h b o e
theorem Kept.refl (p : Addr) (H : Hp) : Kept p H H := fun _ _ h _ => h
theorem Kept.trans {p : Addr} {H H1 H2 : Hp} (a : Kept p H H1) (b : Kept p H1 H2) : Kept p H H2 := fun c o h n => b c o (a c o h n) n
theorem kept_upd {p : Addr} {H : Hp} {o : HO} : Kept p H (upd H p o) := fun b u e n => by rw [upd_ne n]; exact e
/-- a tuple stays where the list at p changes -/
theorem Kept.tup {p t : Addr} {H H' : Hp} {xs ys : List V} (k : Kept p H H') (hp : H p = some (.lst ys)) (h : H t = some (.tup xs)) : H' t = some (.tup xs) := k t _ h (ne_of h hp (by intro z; cases z))

/-! ### tests -/
theorem iteD {c A B : Prop} [Decidable c] (h1 : c → A) (h2 : ¬ c → B) : if decide c = true then A else B := by
  by_cases h : c
  · rw [decide_eq_true h]
    exact iteT (h1 h)
  · rw [decide_eq_false h]
    exact iteF (h2 h)
theorem iteN {c A B : Prop} [Decidable c] (h1 : ¬ c → A) (h2 : c → B) : if (!decide c) = true then A else B := by
  by_cases h : c
  · rw [decide_eq_true h]
    exact iteF (h2 h)
  · rw [decide_eq_false h]
    exact iteT (h1 h)
theorem divw {i j : Int} (h0 : 0 < j) (h : j < 2 ^ 100) : CDivW i j := wide_div (b := 100) h0 (by omega) (by decide) (by decide)

/-! ### the defs of a text, by their promises -/
structure Cl (P : Program) (w : World) (K : PySem.W.Frag) (mg : Str → Option Value) (base : Heap) (x : Str) (ps : List Str) (dvs : List V) (lv : Nat) (sp : Sp) : Prop where
  ex : ∃ (f : Addr) (fd : FuncData) (ds : List Value), FnOk P w K mg base CX0 lv f fd ps sp ∧ mg x = some (.ref f) ∧ PySem.W.keepIn K (.ref f) = true ∧ Binds K fd ps ds ∧ Vals dvs ds
section
variable {X : Cx} {ps : List Str} {dvs : List V} {lv : Nat} {sp : Sp} {x : Str} {p pos : Pos} {e : Expr} {es : List Expr} {t : TA}
theorem pe_use (C : Cl X.prog X.w X.K X.mg X.base x ps dvs lv sp) (hr : Room lv X.A) (hg : Gl X x) (ha : PA X (e :: es) t) (hdb : (x == ("__debug__" : Str)) = false := by decide)
    (he : starEach (e :: es) X.env = (false, eval e X.env) :: starEach es X.env := by rfl) (hpl : (backTo pos (starEach es X.env)).any (·.1) = false := by rfl) : PE X (.Call (.Name x p) (e :: es) [] pos) (tCall sp dvs E0 t) := by
  obtain ⟨f, fd, ds, F, hm, hk, hb, hd⟩ := C.ex
  exact pe_call F hr hg hm hk hb hd pass0 ha hdb he hpl
theorem pe_use0 (C : Cl X.prog X.w X.K X.mg X.base x ps dvs lv sp) (hr : Room lv X.A) (hg : Gl X x) (hdb : (x == ("__debug__" : Str)) = false := by decide) : PE X (.Call (.Name x p) [] [] pos) (tCall sp dvs E0 tNil) := by
  obtain ⟨f, fd, ds, F, hm, hk, hb, hd⟩ := C.ex
  exact pe_call0 F hr hg hm hk hb hd pass0 hdb
end
/-- f(k = v, ..) without a value by place -/
structure ClK (P : Program) (w : World) (K : PySem.W.Frag) (mg : Str → Option Value) (base : Heap) (x : Str) (ps : List Str) (n : Nat) (ks : List Str) (gV : List V → List V → List V) (lv : Nat) (sp : Sp) : Prop where
  ex : ∃ (f : Addr) (fd : FuncData) (g : List Value → List Value → List Value), FnOk P w K mg base CX0 lv f fd ps sp ∧ mg x = some (.ref f) ∧ PySem.W.keepIn K (.ref f) = true ∧ KBn K fd ps n ks g gV
section
variable {X : Cx} {ps ks : List Str} {n : Nat} {gV : List V → List V → List V} {lv : Nat} {sp : Sp} {x : Str} {p pos : Pos} {e : Expr} {es : List Expr} {t tk : TA} {kws : List Keyword}
theorem pe_useK0 (C : ClK X.prog X.w X.K X.mg X.base x ps 0 ks gV lv sp) (hr : Room lv X.A) (hg : Gl X x) (hkw : PK X kws tk) (hall : (backToKw pos (keywordEach kws X.env)).all (·.1.isSome) = true := by rfl) (hks : (backToKw pos (keywordEach kws X.env)).filterMap (·.1) = ks := by rfl)
    (hdb : (x == ("__debug__" : Str)) = false := by decide) (hpl : ((backTo pos (starEach [] X.env)).any (·.1) || (backToKw pos (keywordEach kws X.env)).any (·.1.isNone)) = false := by rfl) :
    PE X (.Call (.Name x p) [] kws pos) (tCallN 0 ks.length sp gV E0 tNil tk) := by
  obtain ⟨f, fd, g, F, hm, hk, hb⟩ := C.ex
  refine ⟨fun pins s σ H Q I h => ?_⟩
  refine wpAny_Call_Name_kw (ld_glob I hg hm ?_ hdb)
  refine PySem.W.callWith_KW0 (h₀ := X.base) I.ok.mod.kin hk hall ?_ hpl
  refine thn (hkw.run pos pins s σ H _ I h) fun ws s2 ⟨zs, H2, I2, rz, l1, l2, q2⟩ => ⟨I2.kIn, ?_⟩
  rw [hks]
  exact run_fnN (us := []) (vs := []) F hr hb pass0 I2 .nil rz rfl l2 q2
theorem pe_useK (C : ClK X.prog X.w X.K X.mg X.base x ps n ks gV lv sp) (hr : Room lv X.A) (hg : Gl X x) (ha : PA X (e :: es) t) (hkw : PK X kws tk) (hall : (backToKw pos (keywordEach kws X.env)).all (·.1.isSome) = true := by rfl)
    (hks : (backToKw pos (keywordEach kws X.env)).filterMap (·.1) = ks := by rfl)
    (hdb : (x == ("__debug__" : Str)) = false := by decide) (he : starEach (e :: es) X.env = (false, eval e X.env) :: starEach es X.env := by rfl)
    (hpl : ((backTo pos (starEach (e :: es) X.env)).any (·.1) || (backToKw pos (keywordEach kws X.env)).any (·.1.isNone)) = false := by rfl) :
    PE X (.Call (.Name x p) (e :: es) kws pos) (tCallN n ks.length sp gV E0 t tk) := by
  obtain ⟨f, fd, g, F, hm, hk, hb⟩ := C.ex
  exact pe_callN F hr hg hm hk hb pass0 ha hkw hall hks hdb he hpl
end
/-- positional and keyword arguments that fill all parameters of a def with defaults -/
theorem kb_full {K : PySem.W.Frag} {x qual : Str} {params : Arguments} {body : List Stmt} {scope : Scope} {dvs : List V} {f : Addr} {fd : FuncData} {ps : List Str} (F : FunD K x qual params body scope dvs [] f fd) (n : Nat) (ks : List Str) (g : {α : Type} → List α → List α → List α → List α) (hd : dvs ≠ [])
    (hrel : ∀ {vs ds zs : List V} {us its ws : List Value}, Vals vs us → Vals ds its → Vals zs ws → Vals (g vs ds zs) (g us its ws))
    (h : ∀ (T : Addr) (kV doc pm : Value) (an : Option Addr) (cdv ct : Value) (us its ws : List Value), us.length = n → its.length = dvs.length → ws.length = ks.length →
      ∃ k, bindArgs (PySem.W.fnOf x qual params body scope (.ref T) kV doc pm an cdv ct) ⟨us, ks.zip ws⟩ = seqItems? (.ref T) >>= k ∧ k (some its.toArray) = pure (ps.zip (g us its ws))) :
    ∃ its : List Value, KBn K fd ps n ks (fun us ws => g us its ws) (fun vs zs => g vs dvs zs) := by
  obtain ⟨oc, od, dV, kV, doc, pm, an, cdv, ct, osl, rfl, lk, hcd, hD, hK⟩ := F.ex
  rcases hD with ⟨e, _⟩ | ⟨_, T, o, its, m, rfl, lT, oT, rT⟩
  · exact absurd e hd
  · refine ⟨its, ⟨fun s us ws X l1 l2 => ?_, fun r1 r2 => hrel r1 rT r2⟩⟩
    obtain ⟨k, e1, e2⟩ := h T kV doc pm an cdv ct us its ws l1 rT.length.symm l2
    refine BindsTo.of_looks fun M => ?_
    rw [e1]
    exact looks_items X lT oT (.of_pure e2)
end Hb

namespace St
open PySem PySem.Spec PyProof.Rows L2 PySem.Froz
/-! ### lots: what sorted(set(..)) is -/
def sLt (a b : Str) : Prop := a.cps.toList < b.cps.toList
instance (a b : Str) : Decidable (sLt a b) := inferInstanceAs (Decidable (_ < _))
theorem sLt_irr (a : Str) : ¬ sLt a a := List.lt_irrefl _
theorem sLt_tr {a b c : Str} (h : sLt a b) (k : sLt b c) : sLt a c := List.lt_trans h k
theorem sLt_as {a b : Str} (h : sLt a b) : ¬ sLt b a := fun k => sLt_irr a (sLt_tr h k)
theorem sLt_eq {a b : Str} (h : ¬ sLt a b) (k : ¬ sLt b a) : a = b := by
  have e : a.cps.toList = b.cps.toList := List.le_antisymm (List.not_lt.mp k) (List.not_lt.mp h)
  cases a; cases b
  exact congrArg Str.mk (Array.toList_inj.mp e)
section
variable {α : Type} (lt : α → α → Prop) [DecidableRel lt] [DecidableEq α]
def ins (x : α) : List α → List α
  | [] => [x]
  | y :: r => if x = y then y :: r else if lt x y then x :: y :: r else y :: ins x r
def lotBy : List α → List α
  | [] => []
  | x :: r => ins lt x (lotBy r)
theorem mem_ins {x y : α} : ∀ {l : List α}, y ∈ ins lt x l ↔ y = x ∨ y ∈ l
  | [] => by simp [ins]
  | z :: r => by
    unfold ins
    split
    · rename_i h; subst h; simp
    · split
      · simp
      · rw [List.mem_cons, mem_ins (l := r), List.mem_cons]
        exact ⟨fun h => h.elim (fun h => .inr (.inl h)) fun h => h.elim .inl fun h => .inr (.inr h), fun h => h.elim (fun h => .inr (.inl h)) fun h => h.elim .inl fun h => .inr (.inr h)⟩
theorem mem_lotBy {y : α} : ∀ {l : List α}, y ∈ lotBy lt l ↔ y ∈ l
  | [] => Iff.rfl
  | x :: r => by rw [lotBy, mem_ins, mem_lotBy (l := r), List.mem_cons]
theorem asc_ins (tri : ∀ a b, ¬ lt a b → ¬ a = b → lt b a) (tr : ∀ a b c, lt a b → lt b c → lt a c) {x : α} : ∀ {l : List α}, l.Pairwise lt → (ins lt x l).Pairwise lt
  | [], _ => List.pairwise_singleton _ _
  | y :: r, h => by
    obtain ⟨h1, h2⟩ := List.pairwise_cons.mp h
    unfold ins
    split
    · exact h
    · rename_i ne
      split
      · rename_i lxy
        exact List.pairwise_cons.mpr ⟨fun z hz => (List.mem_cons.mp hz).elim (fun e => e ▸ lxy) fun hz => tr _ _ _ lxy (h1 z hz), h⟩
      · rename_i nl
        refine List.pairwise_cons.mpr ⟨fun z hz => ?_, asc_ins tri tr h2⟩
        rcases (mem_ins lt).mp hz with rfl | hz
        · exact tri _ _ nl ne
        · exact h1 z hz
theorem asc_lotBy (tri : ∀ a b, ¬ lt a b → ¬ a = b → lt b a) (tr : ∀ a b c, lt a b → lt b c → lt a c) : ∀ l : List α, (lotBy lt l).Pairwise lt
  | [] => .nil
  | x :: r => asc_ins lt tri tr (asc_lotBy tri tr r)
theorem len_ins (x : α) : ∀ l : List α, (ins lt x l).length ≤ l.length + 1
  | [] => Nat.le_refl _
  | y :: r => by
    unfold ins
    split
    · exact Nat.le_succ _
    · split
      · exact Nat.le_refl _
      · exact Nat.succ_le_succ (len_ins x r)
theorem len_lotBy : ∀ l : List α, (lotBy lt l).length ≤ l.length
  | [] => Nat.le_refl _
  | x :: r => Nat.le_trans (len_ins lt x _) (Nat.succ_le_succ (len_lotBy r))
theorem asc_eq (irr : ∀ a, ¬ lt a a) (tr : ∀ a b c, lt a b → lt b c → lt a c) : ∀ {l m : List α}, l.Pairwise lt → m.Pairwise lt → (∀ x, x ∈ l ↔ x ∈ m) → l = m
  | [], [], _, _, _ => rfl
  | [], y :: m, _, _, h => absurd ((h y).mpr List.mem_cons_self) (by simp)
  | x :: l, [], _, _, h => absurd ((h x).mp List.mem_cons_self) (by simp)
  | x :: l, y :: m, hl, hm, h => by
    obtain ⟨l1, l2⟩ := List.pairwise_cons.mp hl
    obtain ⟨m1, m2⟩ := List.pairwise_cons.mp hm
    have e : x = y := by
      rcases List.mem_cons.mp ((h x).mp List.mem_cons_self) with z | z
      · exact z
      · rcases List.mem_cons.mp ((h y).mpr List.mem_cons_self) with u | u
        · exact u.symm
        · exact absurd (tr _ _ _ (m1 x z) (l1 y u)) (irr _)
    subst e
    rw [asc_eq irr tr l2 m2 fun z => ?_]
    constructor
    · intro hz
      rcases List.mem_cons.mp ((h z).mp (List.mem_cons_of_mem _ hz)) with e | e
      · subst e; exact absurd (l1 z hz) (irr z)
      · exact e
    · intro hz
      rcases List.mem_cons.mp ((h z).mpr (List.mem_cons_of_mem _ hz)) with e | e
      · subst e; exact absurd (m1 z hz) (irr z)
      · exact e
end
/-- the lot of texts, of ints -/
def lotS (l : List Str) : List Str := lotBy sLt l
def lotI (l : List Int) : List Int := lotBy (· < ·) l
theorem mem_lotS {x : Str} {l : List Str} : x ∈ lotS l ↔ x ∈ l := mem_lotBy _
theorem mem_lotI {x : Int} {l : List Int} : x ∈ lotI l ↔ x ∈ l := mem_lotBy _
theorem asc_lotS (l : List Str) : (lotS l).Pairwise sLt := asc_lotBy _ (fun a b h k => Decidable.byContradiction fun z => k (sLt_eq h z)) (fun _ _ _ => sLt_tr) l
theorem asc_lotI (l : List Int) : (lotI l).Pairwise (· < ·) := asc_lotBy _ (fun a b h k => (Int.lt_trichotomy a b).elim (absurd · h) fun z => z.elim (absurd · k) id) (fun _ _ _ => Int.lt_trans) l
theorem len_lotS (l : List Str) : (lotS l).length ≤ l.length := len_lotBy _ l
theorem len_lotI (l : List Int) : (lotI l).length ≤ l.length := len_lotBy _ l
theorem lotS_eq {ys l : List Str} (h : ys.Pairwise sLt) (m : ∀ x, x ∈ ys ↔ x ∈ l) : ys = lotS l := asc_eq sLt sLt_irr (fun _ _ _ => sLt_tr) h (asc_lotS l) fun x => (m x).trans mem_lotS.symm
theorem lotI_eq {ys l : List Int} (h : ys.Pairwise (· < ·)) (m : ∀ x, x ∈ ys ↔ x ∈ l) : ys = lotI l := asc_eq (· < ·) (fun _ => Int.lt_irrefl _) (fun _ _ _ => Int.lt_trans) h (asc_lotI l) fun x => (m x).trans mem_lotI.symm
theorem lotS_congr {l m : List Str} (h : ∀ x, x ∈ l ↔ x ∈ m) : lotS l = lotS m := lotS_eq (asc_lotS l) fun x => mem_lotS.trans (h x)
theorem lotI_congr {l m : List Int} (h : ∀ x, x ∈ l ↔ x ∈ m) : lotI l = lotI m := lotI_eq (asc_lotI l) fun x => mem_lotI.trans (h x)
theorem lotS_idem (l : List Str) : lotS (lotS l) = lotS l := lotS_congr fun _ => mem_lotS
theorem asc_nodupS {l : List Str} (h : l.Pairwise sLt) : l.Nodup := List.Pairwise.imp (S := (· ≠ ·)) (fun {a b} (k : sLt a b) (z : a = b) => sLt_irr b (z ▸ k)) h
theorem ris_asc : ∀ {l : List Str} {p : Str}, risingS p l = true → (p :: l).Nodup → (p :: l).Pairwise sLt
  | [], p, _, _ => List.pairwise_singleton _ _
  | x :: r, p, h, nd => by
    obtain ⟨h1, h2⟩ := Bool.and_eq_true_iff.mp (show (!ltCps x.cps.toList p.cps.toList && risingS x r) = true from h)
    obtain ⟨n1, n2⟩ := List.nodup_cons.mp nd
    have a := ris_asc h2 n2
    rw [ltCps_eq, Bool.not_eq_true'] at h1
    have nl : ¬ sLt x p := of_decide_eq_false h1
    have lp : sLt p x := Decidable.byContradiction fun z => n1 (by rw [sLt_eq z nl]; exact List.mem_cons_self)
    exact List.pairwise_cons.mpr ⟨fun z hz => (List.mem_cons.mp hz).elim (fun e => e ▸ lp) fun hz => sLt_tr lp ((List.pairwise_cons.mp a).1 z hz), a⟩
theorem sorted_asc {l : List Str} (h : sortedS l = true) (nd : l.Nodup) : l.Pairwise sLt := match l, h, nd with
  | [], _, _ => .nil
  | _ :: _, h, nd => ris_asc h nd
/-! ### the rules of tuple(sorted(set(x))) -/
section
variable {X : Cx}
theorem cr_or {f : Value} {r1 r2 : List V → Hp → VK → Prop} (a : CallR X f r1) (b : CallR X f r2) : CallR X f (fun xs H Q => r1 xs H Q ∨ r2 xs H Q) := fun pins s σ H xs us Q I r h => h.elim (a pins s σ H xs us Q I r) (b pins s σ H xs us Q I r)
@[irreducible] def rSet (K : PySem.W.Frag) (P : Program) (w : World) : List V → Hp → VK → Prop := fun xs H Q => rSetT K P w xs H Q ∨ rSetI K w xs H Q
@[irreducible] def rSorted2 (P : Program) (w : World) : List V → Hp → VK → Prop := fun xs H Q => rSortT P w xs H Q ∨ rSortedSet w xs H Q
theorem cr_set (hc : X.calm = true) : CallR X (.type "set") (rSet X.K X.prog X.w) := by unfold rSet; exact cr_or (cr_setT hc) (cr_setI hc)
theorem cr_sorted2 (hc : X.calm = true) : CallR X (.builtin "sorted") (rSorted2 X.prog X.w) := by unfold rSorted2; exact cr_or (cr_sortT hc) (cr_sortedSet hc)
end
/-- the reading of tuple(sorted(set(x))) -/
theorem rd_lotS {K : PySem.W.Frag} {P : Program} {w : World} {H : Hp} {a : Addr} {ns : List Str} {Q : VK} (h : SqX K H a (ns.map V.str)) (hl : ns.length ≤ 1000) (q : ∀ p H', Same H H' → H' p = some (.tup ((lotS ns).map V.str)) → Q (.ref p) H') :
    rSet K P w [.ref a] H fun u H1 => rSorted2 P w [u] H1 fun z H2 => ∃ p ys, [z] = [V.ref p] ∧ ((SqL K H2 p ys ∧ ∀ l, H2 l = none → Q (.ref l) (upd H2 l (.tup ys))) ∨ (SqT K H2 p ys ∧ Q (.ref p) H2)) := by
  unfold rSet
  refine .inl ⟨a, ns, rfl, h, hl, fun b m hb nd ml mm => ?_⟩
  unfold rSorted2
  refine .inl ⟨b, m, rfl, upd_same, Nat.le_trans ml hl, fun ys p pm so hp => ⟨p, ys.map V.str, rfl, .inl ⟨SqL.of upd_same, fun l hn => ?_⟩⟩⟩
  have e : ys = lotS ns := lotS_eq (sorted_asc so (pm.nodup_iff.mpr nd)) fun x => pm.mem_iff.trans (mm x)
  rw [e] at hn ⊢
  have s1 : Same H (upd H b (SetT P w b m)) := fun c o e => by rw [upd_ne (ne_of_none e hb)]; exact e
  have s2 : Same (upd H b (SetT P w b m)) (upd (upd H b (SetT P w b m)) p (.lst ((lotS ns).map V.str))) := fun c o e => by rw [upd_ne (ne_of_none e hp)]; exact e
  have s3 : Same (upd (upd H b (SetT P w b m)) p (.lst ((lotS ns).map V.str))) (upd (upd (upd H b (SetT P w b m)) p (.lst ((lotS ns).map V.str))) l (.tup ((lotS ns).map V.str))) := fun c o e => by rw [upd_ne (ne_of_none e hn)]; exact e
  exact q l _ (fun c o e => s3 c o (s2 c o (s1 c o e))) upd_same
theorem rd_lotI {K : PySem.W.Frag} {P : Program} {w : World} {H : Hp} {a : Addr} {ns : List Int} {Q : VK} (h : SqX K H a (ns.map V.int)) (hl : ns.length < 64) (q : ∀ p H', Same H H' → H' p = some (.tup ((lotI ns).map V.int)) → Q (.ref p) H') :
    rSet K P w [.ref a] H fun u H1 => rSorted2 P w [u] H1 fun z H2 => ∃ p ys, [z] = [V.ref p] ∧ ((SqL K H2 p ys ∧ ∀ l, H2 l = none → Q (.ref l) (upd H2 l (.tup ys))) ∨ (SqT K H2 p ys ∧ Q (.ref p) H2)) := by
  unfold rSet
  refine .inr ⟨a, ns, rfl, h, Nat.le_trans (Nat.le_of_lt hl) (by decide), fun b c hb cl => ?_⟩
  unfold rSorted2
  refine .inr ⟨b, _, c, rfl, upd_same, Nat.lt_of_le_of_lt cl hl, fun ys p so mm _ hp => ⟨p, ys.map V.int, rfl, .inl ⟨SqL.of upd_same, fun l hn => ?_⟩⟩⟩
  have e : ys = lotI ns := lotI_eq so fun x => (mm x).trans decide_eq_true_iff
  rw [e] at hn ⊢
  have s1 : Same H (upd H b (SetO w b (fun j => decide (j ∈ ns)) c)) := fun d o e => by rw [upd_ne (ne_of_none e hb)]; exact e
  refine q l _ (fun d o e => ?_) upd_same
  have e1 := s1 d o e
  rw [upd_ne (ne_of_none (by rw [upd_ne (ne_of_none e1 hp)]; exact e1) hn), upd_ne (ne_of_none e1 hp)]
  exact e1
end St

/-! own classes of the text: made, their methods, their == -/
namespace Ow
open PySem PySem.Spec PyProof.Rows L2 Hb
/-- a class of the text, made by its __init__'s promise -/
structure Cm (P : Program) (w : World) (K : PySem.W.Frag) (mg : Str → Option Value) (base : Heap) (x : Str) (C : Addr) (ps : List Str) (lv : Nat) (sp : Sp) : Prop where
  ex : ∃ (f : Addr) (fd : FuncData), Mk K C f ∧ FnOk P w K mg base CX0 lv f fd ps sp ∧ mg x = some (.ref C) ∧ Binds K fd ps []
/-- a class made by keywords alone: its parameters behind self in the order of gV -/
structure CmK (P : Program) (w : World) (K : PySem.W.Frag) (mg : Str → Option Value) (base : Heap) (x : Str) (C : Addr) (ps ks : List Str) (gV : List V → List V → List V) (lv : Nat) (sp : Sp) : Prop where
  ex : ∃ (f : Addr) (fd : FuncData) (g : List Value → List Value → List Value), Mk K C f ∧ FnOk P w K mg base CX0 lv f fd ps sp ∧ mg x = some (.ref C) ∧ KBn K fd ps 1 ks g gV
/-- a method of an own class -/
structure Ch (P : Program) (w : World) (K : PySem.W.Frag) (mg : Str → Option Value) (base : Heap) (C : Addr) (m : Str) (ps : List Str) (dvs : List V) (lv : Nat) (sp : Sp) : Prop where
  ex : ∃ (f : Addr) (fd : FuncData) (ds : List Value), Meth K C m f ∧ FnOk P w K mg base CX0 lv f fd ps sp ∧ Binds K fd ps ds ∧ Vals dvs ds
structure ChK (P : Program) (w : World) (K : PySem.W.Frag) (mg : Str → Option Value) (base : Heap) (C : Addr) (m : Str) (ps ks : List Str) (gV : List V → List V → List V) (lv : Nat) (sp : Sp) : Prop where
  ex : ∃ (f : Addr) (fd : FuncData) (g : List Value → List Value → List Value), Meth K C m f ∧ FnOk P w K mg base CX0 lv f fd ps sp ∧ KBn K fd ps 1 ks g gV
section
variable {X : Cx} {C : Addr} {ps ks : List Str} {gV : List V → List V → List V} {dvs : List V} {lv : Nat} {sp : Sp} {x m : Str} {p pos apos : Pos} {e o : Expr} {es : List Expr} {kws : List Keyword} {t tk : TA} {ta : TE}
theorem pe_new (M : Cm X.prog X.w X.K X.mg X.base x C ps lv sp) (hr : Room (lv + 1) X.A) (hg : Gl X x) (ha : PA X (e :: es) t) (hdb : (x == ("__debug__" : Str)) = false := by decide)
    (he : starEach (e :: es) X.env = (false, eval e X.env) :: starEach es X.env := by rfl) (hpl : (backTo pos (starEach es X.env)).any (·.1) = false := by rfl) : PE X (.Call (.Name x p) (e :: es) [] pos) (tMake C sp [] E0 t) := by
  obtain ⟨f, fd, mk, F, hm, hb⟩ := M.ex
  exact pe_make mk F hr hg hm hb .nil pass0 ha hdb he hpl
theorem pe_newK (M : CmK X.prog X.w X.K X.mg X.base x C ps ks gV lv sp) (hr : Room (lv + 1) X.A) (hg : Gl X x) (hkw : PK X kws tk)
    (hall : (backToKw pos (keywordEach kws X.env)).all (·.1.isSome) = true := by rfl) (hks : (backToKw pos (keywordEach kws X.env)).filterMap (·.1) = ks := by rfl) (hdb : (x == ("__debug__" : Str)) = false := by decide)
    (hpl : ((backTo pos (starEach [] X.env)).any (·.1) || (backToKw pos (keywordEach kws X.env)).any (·.1.isNone)) = false := by rfl) : PE X (.Call (.Name x p) [] kws pos) (tMakeK C 0 ks.length sp gV E0 tNil tk) := by
  obtain ⟨f, fd, g, mk, F, hm, hb⟩ := M.ex
  exact pe_makeK0 mk F hr hg hm hb pass0 hkw hall hks hdb hpl
theorem pe_do {pl : Sem Bool} (M : Ch X.prog X.w X.K X.mg X.base C m ps dvs lv sp) (c : Cls X.K C) (hr : Room lv X.A) (ho : PE X o ta) (ha : PA X (e :: es) t)
    (hst : starEach (e :: es) X.env = (false, eval e X.env) :: starEach es X.env := by rfl) (hpl : (backTo pos (starEach es X.env)).any (·.1) = false := by rfl)
    (ht : eval (.Call (.Attribute o m apos) (e :: es) [] pos) X.env = (do
      let v ← eval o X.env
      standAt apos.atName
      let (f, first) ← holding [v] (getMethod v m pl)
      callWith pos f first (backTo pos (starEach (e :: es) X.env)) (backToKw pos (keywordEach [] X.env))) := by rfl) : PE X (.Call (.Attribute o m apos) (e :: es) [] pos) (tMeth C m sp dvs E0 ta t) := by
  obtain ⟨f, fd, ds, hm, F, hb, hd⟩ := M.ex
  exact pe_meth ho c hm F hr hb hd pass0 ha hst hpl ht
theorem pe_do0 {pl : Sem Bool} (M : Ch X.prog X.w X.K X.mg X.base C m ps dvs lv sp) (c : Cls X.K C) (hr : Room lv X.A) (ho : PE X o ta)
    (ht : eval (.Call (.Attribute o m apos) [] [] pos) X.env = (do
      let v ← eval o X.env
      standAt apos.atName
      let (f, first) ← holding [v] (getMethod v m pl)
      callWith pos f first (backTo pos (starEach [] X.env)) (backToKw pos (keywordEach [] X.env))) := by rfl) : PE X (.Call (.Attribute o m apos) [] [] pos) (tMeth C m sp dvs E0 ta tNil) := by
  obtain ⟨f, fd, ds, hm, F, hb, hd⟩ := M.ex
  exact pe_meth0 ho c hm F hr hb hd pass0 ht
/-- o.m(k = v, ..) -/
def tMethK (C : Addr) (m : Str) (n : Nat) (sp : Sp) (gV : List V → List V → List V) (ta : TE) (tk : TA) : TE := fun σ H Q => ta σ H fun x H1 => ∃ a dx fs, x = .ref a ∧ H1 a = some (.ins C dx fs) ∧ fs.lookup m = none ∧ tk σ H1 fun zs H2 => zs.length = n ∧ sp (gV [x] zs) H2 Q E0
theorem pe_doK {pl : Sem Bool} (M : ChK X.prog X.w X.K X.mg X.base C m ps ks gV lv sp) (c : Cls X.K C) (hr : Room lv X.A) (ho : PE X o ta) (hkw : PK X kws tk)
    (hall : (backToKw pos (keywordEach kws X.env)).all (·.1.isSome) = true := by rfl) (hks : (backToKw pos (keywordEach kws X.env)).filterMap (·.1) = ks := by rfl)
    (hpl : ((backTo pos (starEach [] X.env)).any (·.1) || (backToKw pos (keywordEach kws X.env)).any (·.1.isNone)) = false := by rfl)
    (ht : eval (.Call (.Attribute o m apos) [] kws pos) X.env = (do
      let v ← eval o X.env
      standAt apos.atName
      let (f, first) ← holding [v] (getMethod v m pl)
      callWith pos f first (backTo pos (starEach [] X.env)) (backToKw pos (keywordEach kws X.env))) := by rfl) : PE X (.Call (.Attribute o m apos) [] kws pos) (tMethK C m ks.length sp gV ta tk) := by
  obtain ⟨f, fd, g, hm, F, hb⟩ := M.ex
  refine ⟨fun pins s σ H Q I h => ?_⟩
  refine PySem.W.methodCall_KW (pl := pl) (thn (ho.run pins s σ H _ I h) fun u s1 ⟨x, H1, I1, rx, a, dx, fs, ex, ea, l, q⟩ => ?_) ht
  subst ex; obtain rfl : u = Value.ref a := rx
  refine getmeth_ok I1 ea c hm l ?_
  refine PySem.W.callWith_KW0 (first := [.ref a]) (h₀ := X.base) I1.ok.mod.kin hm.kp hall (thn (hkw.run pos pins s1 σ H1 _ I1 q) fun ws s2 ⟨zs, H2, I2, rz, l1, q2⟩ => ⟨I2.kIn, ?_⟩) hpl
  rw [hks]
  exact run_fnN (us := [.ref a]) (vs := [.ref a]) F hr hb pass0 I2 (.cons rfl .nil) rz rfl l1 q2
end
/-! ### == by an own __eq__, whatever it answers -/
def rEqOwn (C : Addr) (sp : Sp) : R2 := fun x y H Q => ∃ a dx fs b, x = .ref a ∧ y = .ref b ∧ H a = some (.ins C dx fs) ∧ ((∃ dy gs, H b = some (.ins C dy gs)) ∨ ∃ xs, H b = some (.lst xs)) ∧ sp [x, y] H (fun v H' => (∃ k, v = .bl k) ∧ Q v H') E0
theorem op_eqOwn {X : Cx} {C : Addr} {ps : List Str} {lv : Nat} {sp : Sp} (M : Ch X.prog X.w X.K X.mg X.base C "__eq__" ps [] lv sp) (kl : PySem.W.subIn X.K (.type "list") (.ref C) = some false) (hr : Room lv X.A) : OpR X (compareOp .Eq) (rEqOwn C sp) := by
  obtain ⟨f, fd, ds, hm, F, hb, hd⟩ := M.ex
  cases hd
  intro pins s σ H x y v u Q I rx ry h
  obtain ⟨a, dx, fs, b, rfl, rfl, ha, hy, q⟩ := h
  cases rx; cases ry
  obtain ⟨mA, J, _⟩ := ins_get I.hok ha
  obtain ⟨od, J, _⟩ := J.look
  obtain ⟨m, hF⟩ := I.fr
  have run : wpAny (model X.prog X.w) X.A (call (.ref f) [.ref a, .ref b]) (PySem.W.CmpBack (EP X pins σ Q)) X.xe s := by
    have hl := F.len _ _ _ _ q
    have bb := hb s [.ref a, .ref b] I.kIn (by simpa using hl)
    refine wpAny_call (codeAny_mono (F.run X.A X.stack s H ⟨[.ref a, .ref b], []⟩ [.ref a, .ref b] [.ref a, .ref b] _ E0 hr I.env0 (by simpa using bb) (.cons rfl (.cons rfl .nil)) q) fun r s' z => ?_)
    rcases r with e | (_ | _ | _ | w)
    · exact pass0 pins σ H s e s' I z
    · exact False.elim z
    · exact False.elim z
    · exact False.elim z
    · obtain ⟨v, H', I', rv, ⟨k, rfl⟩, q'⟩ := I.after z
      obtain rfl : w = Value.bool k := rv
      exact ⟨.bl k, H', I', rfl, q'⟩
  show wpAny (model X.prog X.w) X.A (richCompare .Eq (.ref a) (.ref b)) (EP X pins σ Q) X.xe s
  rcases hy with ⟨dy, gs, hy⟩ | ⟨xs, hy⟩
  · obtain ⟨mB, J', _⟩ := ins_get I.hok hy
    obtain ⟨od', J', _⟩ := J'.look
    exact PySem.W.cmp_K (op := .Eq) (tb := .ref C) hr.units0 hF I.ok.mod.kin J J'.type (by simp [PySem.W.notFirst]) hm.at_ hm.fn run
  · obtain ⟨z, its, n, r, e⟩ := I.hok b _ hy
    exact PySem.W.cmp_K (op := .Eq) (tb := .type "list") hr.units0 hF I.ok.mod.kin J (fun A Q E s' k q => wpAny_typeOf (T := "list") ⟨_, k _ _ e, rfl⟩ q) (by simp [PySem.W.notFirst, kl]) hm.at_ hm.fn run
/-! ### xs[::n], n reckoned as -1 -/
theorem pe_rev {X : Cx} {e st : Expr} {te ts : TE} {p3 pos : Pos} (he : PE X e te) (hs : PE X st ts) (hN : ∀ σ H (Q : VK), Q (.int (-1)) H → ts σ H Q) :
    PE X (.Subscript e (.Slice none none (some st) p3) pos) (fun σ H Q => te σ H fun x H1 => ∃ a xs, x = .ref a ∧ SqL X.K H1 a xs ∧ ∀ p, H1 p = none → Q (.ref p) (upd H1 p (.lst xs.reverse))) := by
  refine ⟨fun pins s σ H Q I h => Subscript_ (thn (he.run pins s σ H _ I h) fun v s1 ⟨x, H1, I1, r1, a, xs, ex, hx, q⟩ => ?_)⟩
  subst ex; cases r1
  refine wpAny_Slice (thn (po_none.run pins s1 σ H1 (fun o H2 => o = none ∧ H2 = H1) I1 ⟨rfl, rfl⟩) fun vl s2 ⟨l, H2, I2, pl, el, e2⟩ => ?_)
  subst el e2
  refine thn (po_none.run pins s2 σ H2 (fun o H3 => o = none ∧ H3 = H2) I2 ⟨rfl, rfl⟩) fun vu s3 ⟨u, H3, I3, pu, eu, e3⟩ => ?_
  subst eu e3
  refine thn ((po_some hs).run pins s3 σ H3 (fun o H4 => o = some (-1) ∧ H4 = H3) I3 (hN σ H3 _ ⟨-1, rfl, rfl, rfl⟩)) fun vs s4 ⟨o, H4, I4, ps, eo, e4⟩ => ?_
  subst eo e4
  have I5 : Inv X pins σ H4 { s4 with heap := s4.heap.push { cls := .type "slice", data := .fields #[vl, vu, vs] } } := I4.kept (t' := s4.toks) fun b ob q => Heap.get?_push_of_some _ q
  obtain ⟨its, r, ht, hz⟩ := I5.list hx
  have hlen := r.length
  show wpAny (model X.prog X.w) X.A (subscriptTail e (.Slice none none (some st) p3) (.ref a) (.ref s4.heap.objs.size)) (EP X pins σ Q) X.xe { s4 with heap := s4.heap.push { cls := .type "slice", data := .fields #[vl, vu, vs] } }
  refine tail_any (ops := [.ref a, .ref s4.heap.objs.size]) ht.isList.typeIs (PySem.slot_list_getitem.lookup) ?_ (by with_unfolding_all rfl)
  refine wpAny_getItem_list_slice ht.isList (Heap.IsSliceOf.new _ vl vu vs) pl pu ps (by decide) ?_ (by rw [List.size_toArray]; omega)
  rw [PySem.W.krv_pick]
  exact ⟨.ref _, _, I5.laid (t' := s4.toks) (o := .lst xs.reverse) (fun b ob q => Heap.get?_push_of_some _ q) (Nat.le_refl _) ⟨by rw [List.length_reverse]; exact hz, _, 0, r.reverse, Heap.get?_push_size _ rfl⟩, rfl, q _ (I5.hok.fresh (Nat.le_refl _))⟩
/-- o.f within a comprehension -/
theorem pe_fldK {X : Cx} {e : Expr} {f : Str} {pos : Pos} {ta : TE} (K : PySem.W.Frag) (he : PE X e ta) (hb : attributeBase e f X.env (eval e X.env) = eval e X.env) (hK : X.K = K := by rfl) : PE X (.Attribute e f pos) (tFld K ta f) := by
  subst hK
  exact pe_fld he hb
end Ow

namespace Ow
open PySem PySem.Spec PyProof.Rows L2 Hb
/-- {k: v}, k a tuple of ints and texts -/
def tDisp1 (tk tv : TE) : TE := fun σ H Q => ∀ p, H p = none → tk σ (upd H p (.dT [])) fun x H1 => tv σ H1 fun y H2 => H2 p = some (.dT []) ∧ ∃ (k : List Key) (b : Addr), x = .ref b ∧ H2 b = some (.tup (k.map kV)) ∧ Q (.ref p) (upd H2 p (.dT [(k, y)]))
theorem pe_disp1T {X : Cx} {k v : Expr} {tk tv : TE} {pos : Pos} (hu : X.A.units + 1 < cLine) (hk : PE X k tk) (hv : PE X v tv) : PE X (.Dict [some k] [v] pos) (tDisp1 tk tv) := by
  refine ⟨fun pins s σ H Q I q => ?_⟩
  have hn := I.hok.fresh (Nat.le_refl s.heap.objs.size)
  have I1 := I.laid (a := s.heap.objs.size) (o := .dT []) (h' := s.heap.push { cls := .type "dict", data := .dict #[] }) (t' := s.toks) (fun _ _ q => Heap.get?_push_of_some _ q) (Nat.le_refl _) (dt_empty s.heap I.big)
  have pr := pairTrees_length [some k] [v] X.env pos rfl rfl
  rw [arm_eval_Dict, zip_pairTrees [some k] [v] X.env pos rfl rfl, dictDisplay_pairs _ (fun z => by rw [z] at pr; cases pr) (by rw [pr]; exact (by decide : (1 : Nat) < 17))]
  refine wpAny_bind (wpAny_standAt (wpAny_bind (wpAny_subDictH (knd := tupleKind (mixKind X.prog X.w)) (Q := fun d s' => wpAny (model X.prog X.w) X.A (pure (Value.ref d)) (EP X pins σ Q) X.xe s') (show X.A.units < cLine by omega) (by rw [pr]; exact (by decide : (1 : Nat) ≤ 15)) ?_)))
  refine thn ((pps_cons hk hv pps_nil).run pins _ σ _ (fun ps H2 => match ps with | [(x, y)] => H2 s.heap.objs.size = some (.dT []) ∧ ∃ (k : List Key) (b : Addr), x = .ref b ∧ H2 b = some (.tup (k.map kV)) ∧ Q (.ref s.heap.objs.size) (upd H2 s.heap.objs.size (.dT [(k, y)])) | _ => False) I1 (q _ hn)) fun ws s2 ⟨ps, H2, I2, rel, q1⟩ => ?_
  match ps, q1 with
  | [(x, y)], q1 => ?_
  obtain ⟨e, kk, b, ex, eb, q2⟩ := q1
  subst ex
  cases rel with
  | @cons _ bb _ _ h t =>
    obtain ⟨b1, b2⟩ := bb
    cases t
    obtain ⟨r1, r2⟩ := h
    cases (show b1 = Value.ref b from r1)
    obtain ⟨z, hd, xs, rel, dd⟩ := dt_of I2.hok e
    cases rel
    refine ⟨[(kk, b, b2)], ⟨rfl, rfl, key_of I2.hok eb, trivial⟩, dd, fun h' tk' dd' hs => wpAny_pure ⟨.ref s.heap.objs.size, _, ?_, rfl, q2⟩⟩
    obtain ⟨qo, es, ep, hq, h2, h3, h4, _, h5⟩ := dd'
    refine d_write I2 (by rw [e]; exact True.intro) hs ⟨qo, hq⟩ ⟨by show 1 ≤ sizeLine; decide, hd, [(kk, b, b2)], .cons ⟨rfl, ?_, r2⟩ .nil, qo, es, ep, hq, h2, h3, h4, h5⟩
    rw [upd_ne (ne_of eb e (fun z => nomatch z))]
    exact eb
end Ow

/-! enumerate of a tuple -/
namespace En
open PySem PySem.Spec PyProof.Rows L2
set_option maxHeartbeats 1000000 in
theorem new_one {v : Value} {it : Obj} {Z : Heap → Prop} (B : Begins v it Z) : Meets (Builtin.«enumerate.__new__» ⟨[.type "enumerate", v], []⟩) (fun _ R z => Z z.heap ∧
    R (.ok (.ret (.ref (z.heap.push it).objs.size))) { z with heap := (z.heap.push it).push { cls := .type "enumerate", data := .fields #[.none, .bool false, .ref z.heap.objs.size, rawInt 0, .none, .none] } }) :=
  .of_wp fun prog w A R z hz => by
    obtain ⟨hp, gs, dr, nt, oss⟩ := z
    obtain ⟨hZ, hR⟩ := hz
    have isub := sub_enumerate
    have begun : ∀ {A' : Around} {E : Value → Shared → Prop} {Q : Value → Shared → Prop}, Q (.ref hp.objs.size) ⟨hp.push it, gs, dr, nt, oss⟩ → wpAny (model prog w) A' (pyIter v) Q E ⟨hp, gs, dr, nt, oss⟩ :=
      fun qq => B.iter prog w _ _ ⟨hp, gs, dr, nt, oss⟩ _ hZ qq
    wp_walk using begun
    refine wpAny_stack_any fun _ => wpAny_pure ?_
    split
    · rename_i cl _ _ _ _ _
      cases (cl == Value.type "enumerate") <;> (wp_walk using begun; exact ⟨_, rfl, hR⟩)
    · wp_walk using begun
      exact ⟨_, rfl, hR⟩
section
variable {prog : Program} {w : World} {A : Around} {E : Value → Shared → Prop} {s : Shared}
theorem call_one {v : Value} {it : Obj} {Z : Heap → Prop} {Q : Value → Shared → Prop} (B : Begins v it Z) (hZ : Z s.heap)
    (fin : ∀ h', IsEnum h' (s.heap.objs.size + 1) s.heap.objs.size 0 .none → h'.get? s.heap.objs.size = some it → (∀ b o, s.heap.get? b = some o → h'.get? b = some o) → Q (.ref (s.heap.objs.size + 1)) { s with heap := h' }) :
    wpAny (model prog w) A (call (.type "enumerate") [v]) Q E s := by
  refine callType_new F.called_enumerate (by decide) (F.typeCall_enumerate_1 v) (F.newCall_enumerate_1 v) (fun self => F.args_object_init_2 self v) F.entry_enumerate_new (new_one B) ⟨hZ, ?_⟩
  have size1 : (s.heap.push it).objs.size = s.heap.objs.size + 1 := Heap.size_push ..
  show _ ∧ _
  rw [size1]
  have at1 : IsEnum ((s.heap.push it).push { cls := .type "enumerate", data := .fields #[.none, .bool false, .ref s.heap.objs.size, rawInt 0, .none, .none] }) (s.heap.objs.size + 1) s.heap.objs.size 0 .none := by
    have z := Heap.get?_push_size (s.heap.push it) (o := { cls := .type "enumerate", data := .fields #[.none, .bool false, .ref s.heap.objs.size, rawInt 0, .none, .none] }) rfl
    rw [size1] at z
    exact z
  exact ⟨⟨_, at1, rfl⟩, fin _ at1 (Heap.get?_push_of_some _ (Heap.get?_push_size _ B.free)) fun b o y => Heap.get?_push_of_some _ (Heap.get?_push_of_some _ y)⟩
end
def IteT (K : PySem.W.Frag) (a : Addr) : It where
  go i H := ∃ (xs : List V) (x : V), SqT K H a xs ∧ xs[i]? = some x
  yld i H v H' := ∃ T x, v = .ref T ∧ H T = none ∧ H' = upd H T (.tup [.int (i : Nat), x]) ∧ ∀ xs, SqT K H a xs → xs[i]? = some x
  stop i H := ∃ xs : List V, SqT K H a xs ∧ xs.length ≤ i
theorem tup_ne {h : Heap} {a it : Addr} {k : Nat} {items : Array Value} (h1 : h.IsTuple a items) (h2 : h.IsTupleIter it a k) : a ≠ it := by
  intro e
  obtain ⟨o, ho, hc, _⟩ := h1
  obtain ⟨o2, ho2, hc2, _⟩ := h2
  rw [← e, ho] at ho2
  cases ho2
  exact absurd (Value.type.inj (hc.symm.trans hc2)) (by decide)
theorem turn_enumT {P : Program} {w : World} {K : PySem.W.Frag} {elts : List Expr} {kk : Nat} {tpos : Pos} (a e it : Addr) :
    Turn P w K (.Tuple elts kk tpos) (IteT K a) [e, it] e (fun i h => (∃ old, IsEnum h e it ((i : Nat) : Int) old) ∧ h.IsTupleIter it a i ∧ e ≠ it) where
  mem := by simp
  obj i h st b hb := by
    obtain ⟨⟨old, hen⟩, ⟨o, ho, _, hd⟩, _⟩ := st
    rcases (show b = e ∨ b = it by simpa using hb) with z | z
    · exact ⟨_, by rw [z]; exact hen, fun v q => by cases (show Data.fields _ = Data.cell v from q)⟩
    · exact ⟨o, by rw [z]; exact ho, fun v q => by rw [hd] at q; cases q⟩
  keep i h h' st k := by
    obtain ⟨⟨old, hen⟩, hti, ne⟩ := st
    exact ⟨⟨old, k e (by simp) _ hen⟩, hti.at fun o q => k it (by simp) o q, ne⟩
  item := by
    intro X hP hw hK hc i pins s σ H E I hf st hg
    subst hP hw hK
    obtain ⟨⟨old, hen⟩, hti, ne⟩ := st
    obtain ⟨xs, x, hq, hx⟩ := hg
    obtain ⟨its, rel, pt, _⟩ := I.tuple hq
    obtain ⟨u, hu, ru⟩ := rel.get hx
    have lt1 : e < s.heap.objs.size := Heap.lt_size hen
    have lt2 : it < s.heap.objs.size := by obtain ⟨_, y, _⟩ := hti; exact Heap.lt_size y
    have ane := tup_ne pt hti
    have elt : ∀ b ∈ [e, it], b < s.heap.objs.size := fun b hb => by
      rcases (show b = e ∨ b = it by simpa using hb) with z | z <;> rw [z] <;> assumption
    have ena : e ≠ a := fun z => by
      obtain ⟨o, ho, hcl, _⟩ := pt
      have q : s.heap.get? e = _ := hen
      rw [z, ho] at q
      cases q
      exact absurd (Value.type.inj hcl) (by decide)
    have hh : X.A.in1.handled = none := I.ok.hd hc
    refine wpAny_pyNext_enum_itemD (Draws.tuple hh it a ane its.toArray) hen ⟨hti, pt⟩ (show i < its.toArray.size by rw [List.size_toArray]; exact (List.getElem?_eq_some_iff.mp hu).1) ne (by simp [ne, ena]) fun y h' tk hy out st' hT hsz hk => ?_
    have hyu : y = u := by
      have : its[i]? = some y := by simpa using hy
      rw [hu] at this
      exact (Option.some.inj this).symm
    subst hyu
    refine ⟨_, rfl, wpAny_letOwnedTupleGo_enum (s := { s with heap := h', toks := tk + 1 }) out fun h2 hen2 sb => ?_⟩
    have t2 : h2.get? s.heap.objs.size = some { cls := .type "tuple", data := .seq #[.int i tk, y] } := (sb.2 _ (Nat.ne_of_gt lt1)).trans hT
    have newT : ObjOk X.prog X.w (upd H s.heap.objs.size (.tup [.int (i : Nat), x])) h2 s.heap.objs.size (.tup [.int (i : Nat), x]) :=
      ⟨by show 2 ≤ sizeLine; decide, [.int i tk, y], .cons ⟨_, rfl⟩ (.cons ru .nil), ⟨_, t2, rfl, _, rfl⟩⟩
    have J : Inv X pins σ (upd H s.heap.objs.size (.tup [.int (i : Nat), x])) { s with heap := h2, toks := tk + 1 } :=
      I.turnedNew (t' := tk + 1) (ch := [e, it]) (fun b ob hb q => (sb.2 b (fun z => hb (by simp [z]))).trans (hk b ob (fun z => hb (by simp [z])) (fun z => hb (by simp [z])) q)) hf (Nat.le_refl _) newT
    refine ⟨.ref s.heap.objs.size, _, J, rfl, ⟨_, x, rfl, I.hok.fresh (Nat.le_refl _), rfl, fun ys hys => by rw [I.tuple_inj hys hq]; exact hx⟩, ⟨⟨y, ?_⟩, st'.1.at fun o q => (sb.2 it (Ne.symm ne)).trans q, ne⟩, fun b hb => ?_⟩
    · rw [show ((i + 1 : Nat) : Int) = (i : Int) + 1 by omega]
      exact hen2
    · rw [upd_ne (Nat.ne_of_lt (elt b hb))]
      exact (hf b hb).1
  done := by
    intro X hP hw hK hc i pins s σ H E I hf st hg
    subst hP hw hK
    obtain ⟨⟨old, hen⟩, hti, ne⟩ := st
    obtain ⟨xs, hq, hx⟩ := hg
    obtain ⟨its, rel, pt, _⟩ := I.tuple hq
    obtain ⟨g0, g1, g2, g3, g4, g5⟩ := hf it (by simp)
    have hl := rel.length
    have hh : X.A.in1.handled = none := I.ok.hd hc
    have T : Draws X.prog X.w X.A.in1 it [it, a] i (fun i v => its.toArray[i]? = some v) (fun k h => k = i ∧ h.IsTupleIter it a i ∧ h.IsTuple a its.toArray) := {
      live := fun _ _ sj => let ⟨o, ho, _⟩ := sj.2.1; ⟨o, ho⟩
      frame := fun _ _ _ sj k => ⟨sj.1, sj.2.1.at fun o q => k it (by simp) o q, sj.2.2.at fun o q => k a (by simp) o q⟩
      item := fun j z Q' E' hj sj hQ => absurd sj.1 (Nat.ne_of_lt hj)
      done := fun z Q' E' sj hE => wpAny_nextOf_tuple_end hh sj.2.1 sj.2.2 (by simp; omega) hE }
    exact wpAny_pyNext_enum_endD T hen ⟨rfl, hti, pt⟩ fun h' eb => ⟨rfl, I.turned (t' := s.toks) (fun b o hb q => eb b o hb q) g0 g1 g3 g4 g5⟩
  self A i s Q E st h := by
    obtain ⟨⟨_, hen⟩, _⟩ := st
    exact wpAny_pyIter_enum hen h
def iEnumT (K : PySem.W.Frag) (ta : TA) : TI := fun σ H R => ta σ H fun vs H1 => ∃ a, vs = [.ref a] ∧ (∃ xs, SqT K H1 a xs) ∧ R (IteT K a) H1
theorem pi_enumT {X : Cx} {e : Expr} {ta : TA} {p pos tpos : Pos} {elts : List Expr} {kk : Nat} (hg : Gl X "enumerate") (hm : X.mg "enumerate" = none) (ha : PA X [e] ta) (hs : starEach [e] X.env = [(false, eval e X.env)] := by rfl) :
    PI X (.Tuple elts kk tpos) (.Call (.Name "enumerate" p) [e] [] pos) (iEnumT X.K ta) := by
  refine ⟨fun pins s σ H R I h => Call_ (ld_blt I hg hm boot_enumerate (PyProof.Rows.callWith_type1 (thn (ha.run pos pins s σ H _ I h) fun us s1 gone => ?_) hs rfl))⟩
  obtain ⟨vs, H1, I1, rel, a, rfl, ⟨xs, hq⟩, qq⟩ := gone
  match us, rel with
  | [_], .cons r .nil =>
    cases r
    obtain ⟨its, _, pt, _⟩ := I1.tuple hq
    refine call_one (begins_tuple a its.toArray) pt fun h' hen hit hk => wpAny_pyIter_enum hen ?_
    have J : Inv X pins σ H1 { s1 with heap := h' } := I1.kept (t' := s1.toks) hk
    refine ⟨s1.heap.objs.size + 1, [s1.heap.objs.size + 1, s1.heap.objs.size], _, _, H1, rfl, J, turn_enumT a (s1.heap.objs.size + 1) s1.heap.objs.size, ⟨⟨.none, hen⟩, ⟨_, hit, rfl, rfl⟩, Nat.succ_ne_self _⟩, fun b hb => ?_, qq⟩
    have le : s1.heap.objs.size ≤ b := by
      rcases (show b = s1.heap.objs.size + 1 ∨ b = s1.heap.objs.size by simpa using hb) with z | z
      · rw [z]; exact Nat.le_succ _
      · rw [z]; exact Nat.le_refl _
    exact I1.fpOk le (I1.hok.fresh le)
/-- for i, x in enumerate(t) -/
theorem for_enumT {K : PySem.W.Frag} {a : Addr} {xs : List V} {g : TG} {tb : TS} {D : Ends} {σ : L2.St} {H : Hp} (Pv : Nat → L2.St → Hp → Prop) (h0 : Pv 0 σ H) (hl : ∀ i σ H, Pv i σ H → SqT K H a xs)
    (hs : ∀ (i : Nat) (x : V) (T : Addr) (σ : L2.St) (H : Hp), xs[i]? = some x → Pv i σ H → H T = none → g (.ref T) σ (upd H T (.tup [.int (i : Nat), x])) fun σ2 H2 => tb { D with nx := Pv (i + 1), ct := Pv (i + 1), bk := D.nx } σ2 H2)
    (hd : ∀ σ H, Pv xs.length σ H → D.nx σ H) :
    ∃ W : Nat → Nat → L2.St → Hp → Prop, (∃ m, W 0 m σ H) ∧ ∀ i m σ H, W i m σ H →
      ((IteT K a).stop i H ∧ D.nx σ H) ∨ ((IteT K a).go i H ∧ ∃ N : L2.St → Hp → Prop, (∀ σ' H', N σ' H' → ∃ m', m' < m ∧ W (i + 1) m' σ' H') ∧ ∀ v H', (IteT K a).yld i H v H' → g v σ H' fun σ2 H2 => tb { D with nx := N, ct := N, bk := D.nx } σ2 H2) := by
  refine ⟨fun i m σ H => m + i = xs.length ∧ Pv i σ H, ⟨xs.length, rfl, h0⟩, fun i m σ H ⟨e, p⟩ => ?_⟩
  have q := hl i σ H p
  cases m with
  | zero => exact .inl ⟨⟨xs, q, by omega⟩, hd σ H (by rw [show xs.length = i by omega]; exact p)⟩
  | succ m =>
    have hlt : i < xs.length := by omega
    refine .inr ⟨⟨xs, xs[i], q, List.getElem?_eq_getElem hlt⟩, Pv (i + 1), fun σ' H' p' => ⟨m, Nat.lt_succ_self m, by omega, p'⟩, fun v H' y => ?_⟩
    obtain ⟨T, x, rfl, hT, rfl, hx⟩ := y
    exact hs i x T σ H (hx xs q) p hT
end En

/-! walks over a list or a tuple alike; comprehensions that keep some items and turn them -/
namespace Sq
open PySem PySem.Spec PyProof.Rows L2 Hb St
/-- what a program changes in place -/
def Mut (o : HO) : Prop := (∃ ys, o = .lst ys) ∨ ∃ k, o = .dT k
/-- all but the lists and dicts is as it was -/
def Fix (H H' : Hp) : Prop := ∀ b o, H b = some o → ¬ Mut o → H' b = some o
theorem Fix.of {H H' : Hp} (s : Same H H') : Fix H H' := fun b o e _ => s b o e
theorem Fix.refl (H : Hp) : Fix H H := fun _ _ e _ => e
theorem Fix.trans {H H1 H2 : Hp} (a : Fix H H1) (b : Fix H1 H2) : Fix H H2 := fun c o e n => b c o (a c o e n) n
theorem Fix.lst {H : Hp} {p : Addr} {xs : List V} {o : HO} (e : H p = some (.lst xs)) : Fix H (upd H p o) := fun b u eb n => by
  rw [upd_ne fun z => n (.inl ⟨xs, by rw [z, e] at eb; exact (Option.some.inj eb).symm⟩)]; exact eb
theorem Fix.dT {H : Hp} {p : Addr} {k : List (List Key × V)} {o : HO} (e : H p = some (.dT k)) : Fix H (upd H p o) := fun b u eb n => by
  rw [upd_ne fun z => n (.inr ⟨k, by rw [z, e] at eb; exact (Option.some.inj eb).symm⟩)]; exact eb
theorem Fix.new {H : Hp} {p : Addr} {o : HO} (e : H p = none) : Fix H (upd H p o) := Fix.of (same_new e o)
theorem Fix.kept {H H' : Hp} {p : Addr} {xs : List V} (e : H p = some (.lst xs)) (k : Kept p H H') : Fix H H' := fun b o eb n => k b o eb fun z => n (.inl ⟨xs, by rw [z, e] at eb; exact (Option.some.inj eb).symm⟩)
theorem tupFix {K : PySem.W.Frag} {H H' : Hp} {a : Addr} {xs : List V} (f : Fix H H') (h : SqT K H a xs) : SqT K H' a xs := by
  rcases h with (e | ⟨o, e⟩) | r
  · exact .inl (.inl (f _ _ e (by rintro (⟨_, z⟩ | ⟨_, z⟩) <;> cases z)))
  · exact .inl (.inr ⟨o, f _ _ e (by rintro (⟨_, z⟩ | ⟨_, z⟩) <;> cases z)⟩)
  · exact .inr r
theorem lstSame {K : PySem.W.Frag} {H H' : Hp} {a : Addr} {xs : List V} (f : Same H H') (h : SqL K H a xs) : SqL K H' a xs := by
  rcases h with (e | ⟨o, e⟩) | r
  · exact .inl (.inl (f _ _ e))
  · exact .inl (.inr ⟨o, f _ _ e⟩)
  · exact .inr r
theorem sqxSame {K : PySem.W.Frag} {H H' : Hp} {a : Addr} {xs : List V} (s : Same H H') (h : SqX K H a xs) : SqX K H' a xs := h.imp (lstSame s) (tupFix (Fix.of s))
theorem SqX.lst {K : PySem.W.Frag} {H : Hp} {a : Addr} {xs : List V} (e : H a = some (.lst xs)) : SqX K H a xs := .inl (SqL.of e)
theorem SqX.tup {K : PySem.W.Frag} {H : Hp} {a : Addr} {xs : List V} (e : H a = some (.tup xs)) : SqX K H a xs := .inr (SqT.of e)
/-- item by item -/
inductive All2 {α β : Type} (R : α → β → Prop) : List α → List β → Prop where
  | nil : All2 R [] []
  | cons {a b as bs} : R a b → All2 R as bs → All2 R (a :: as) (b :: bs)
namespace All2
variable {α β : Type} {R S : α → β → Prop}
theorem len : ∀ {as : List α} {bs : List β}, All2 R as bs → as.length = bs.length
  | _, _, .nil => rfl
  | _, _, .cons _ t => congrArg (· + 1) t.len
theorem imp (f : ∀ a b, R a b → S a b) : ∀ {as : List α} {bs : List β}, All2 R as bs → All2 S as bs
  | _, _, .nil => .nil
  | _, _, .cons h t => .cons (f _ _ h) (imp f t)
theorem app : ∀ {as as' : List α} {bs bs' : List β}, All2 R as bs → All2 R as' bs' → All2 R (as ++ as') (bs ++ bs')
  | _, _, _, _, .nil, h => h
  | _, _, _, _, .cons h t, k => .cons h (app t k)
theorem get : ∀ {as : List α} {bs : List β}, All2 R as bs → ∀ {i : Nat} {a : α}, as[i]? = some a → ∃ b, bs[i]? = some b ∧ R a b
  | _, _, .cons h t, 0, a, e => ⟨_, rfl, by cases e; exact h⟩
  | _, _, .cons h t, i + 1, a, e => t.get (i := i) e
theorem getR : ∀ {as : List α} {bs : List β}, All2 R as bs → ∀ {i : Nat} {b : β}, bs[i]? = some b → ∃ a, as[i]? = some a ∧ R a b
  | _, _, .cons h t, 0, a, e => ⟨_, rfl, by cases e; exact h⟩
  | _, _, .cons h t, i + 1, a, e => t.getR (i := i) e
theorem map_eq {f : β → α} (h : ∀ a b, R a b → a = f b) : ∀ {as : List α} {bs : List β}, All2 R as bs → as = bs.map f
  | _, _, .nil => rfl
  | _, _, .cons r t => by rw [List.map_cons, h _ _ r, map_eq h t]
theorem of_map {f : β → α} (h : ∀ b, R (f b) b) : ∀ bs : List β, All2 R (bs.map f) bs
  | [] => .nil
  | b :: bs => .cons (h b) (of_map h bs)
theorem drop : ∀ {as : List α} {bs : List β} (n : Nat), All2 R as bs → All2 R (as.drop n) (bs.drop n)
  | _, _, 0, h => h
  | _, _, n + 1, .nil => .nil
  | _, _, n + 1, .cons _ t => drop n t
theorem take : ∀ {as : List α} {bs : List β} (n : Nat), All2 R as bs → All2 R (as.take n) (bs.take n)
  | _, _, 0, h => .nil
  | _, _, n + 1, .nil => .nil
  | _, _, n + 1, .cons h t => .cons h (take n t)
end All2
/-- a walk J over the items xs of the object at a; S: it stands -/
structure Wk (J : It) (a : Addr) (S : Hp → Prop) (xs : List V) : Prop where
  go : ∀ i H, i < xs.length → S H → J.go i H
  stop : ∀ H, S H → J.stop xs.length H
  yld : ∀ i H v H', i < xs.length → S H → J.yld i H v H' → H' = H ∧ xs[i]? = some v
  keep : ∀ {H H' : Hp}, (∀ o, H a = some o → H' a = some o) → S H → S H'
theorem wk_list {K : PySem.W.Frag} {a : Addr} {xs : List V} : Wk (Itl K a) a (fun H => SqL K H a xs) xs where
  go := fun i H hi s => ⟨xs, xs[i], s, List.getElem?_eq_getElem hi⟩
  stop := fun H s => ⟨xs, s, Nat.le_refl _⟩
  yld := fun i H v H' _ s y => ⟨y.1, y.2 xs s⟩
  keep := fun k s => by
    rcases s with (e | ⟨o, e⟩) | r
    · exact .inl (.inl (k _ e))
    · exact .inl (.inr ⟨o, k _ e⟩)
    · exact .inr r
theorem wk_tup {K : PySem.W.Frag} {a : Addr} {xs : List V} : Wk (Itt K a) a (fun H => SqT K H a xs) xs where
  go := fun i H hi s => ⟨xs, xs[i], s, List.getElem?_eq_getElem hi⟩
  stop := fun H s => ⟨xs, s, Nat.le_refl _⟩
  yld := fun i H v H' _ s y => ⟨y.1, y.2 xs s⟩
  keep := fun k s => by
    rcases s with (e | ⟨o, e⟩) | r
    · exact .inl (.inl (k _ e))
    · exact .inl (.inr ⟨o, k _ e⟩)
    · exact .inr r
def iSeq (K : PySem.W.Frag) (tl : TE) : TI := fun σ H R => tl σ H fun x H1 => ∃ a xs, x = .ref a ∧ SqX K H1 a xs ∧ ∀ (J : It) (S : Hp → Prop), Wk J a S xs → S H1 → R J H1
theorem pi_seq {X : Cx} {tg l : Expr} {tl : TE} (hl : PE X l tl) : PI X tg l (iSeq X.K tl) := by
  refine ⟨fun pins s σ H R I h => ?_⟩
  have both : PI X tg l (fun σ H R => iList X.K tl σ H R ∨ iTup X.K tl σ H R) := ⟨fun pins s σ H R I h => h.elim ((pi_list hl).run pins s σ H R I) ((pi_tup hl).run pins s σ H R I)⟩
  refine thn (hl.run pins s σ H _ I h) fun v s1 ⟨x, H1, I1, r1, a, xs, ex, hx, q⟩ => ?_
  subst ex; cases r1
  rcases hx with hx | hx
  · obtain ⟨its, rv, p, hz⟩ := I1.list hx
    refine wpAny_pyIter_list p.isList ⟨s1.heap.objs.size, [s1.heap.objs.size], _, _, H1, rfl, I1.kept (t' := s1.toks) fun b o e => Heap.get?_push_of_some _ e, turn_list a _, ⟨_, Heap.get?_push_size _ rfl, rfl, rfl⟩, fun b hb => ?_, q _ _ wk_list hx⟩
    obtain rfl : b = s1.heap.objs.size := by simpa using hb
    exact I1.fpOk (Nat.le_refl _) (I1.hok.fresh (Nat.le_refl _))
  · obtain ⟨its, rv, p, hz⟩ := I1.tuple hx
    refine wpAny_pyIter_tuple (show s1.heap.IsTuple a its.toArray from p) ⟨s1.heap.objs.size, [s1.heap.objs.size], _, _, H1, rfl, I1.kept (t' := s1.toks) fun b o e => Heap.get?_push_of_some _ e, turn_tuple a _, ⟨_, Heap.get?_push_size _ rfl, rfl, rfl⟩, fun b hb => ?_, q _ _ wk_tup hx⟩
    obtain rfl : b = s1.heap.objs.size := by simpa using hb
    exact I1.fpOk (Nat.le_refl _) (I1.hok.fresh (Nat.le_refl _))
/-! ### comprehensions -/
section
variable {α : Type}
/-- where a comprehension stands: H1 as it began, D its list, ds its items' data -/
structure MF (H1 : Hp) (D : Addr) (ds : List α) (keep : α → Bool) (Rel : Hp → V → α → Prop) (i : Nat) (H : Hp) : Prop where
  same : Same H1 H
  acc : ∃ ys, H D = some (.lst ys) ∧ All2 (Rel H) ys ((ds.take i).filter keep)
variable {H1 : Hp} {D : Addr} {ds : List α} {keep : α → Bool} {Rel : Hp → V → α → Prop} {i : Nat} {H : Hp}
theorem mf_yes (m : MF H1 D ds keep Rel i H) {H' : Hp} {d : α} {y : V} (hd : H1 D = none) (mono : ∀ H H' y d, Fix H H' → Rel H y d → Rel H' y d) (hi : ds[i]? = some d) (hl : ds.length ≤ 100000) (s : Same H H') (k : keep d = true) (r : Rel H' y d) :
    ∃ acc, H' D = some (.lst acc) ∧ acc.length < sizeLine ∧ MF H1 D ds keep Rel (i + 1) (upd H' D (.lst (acc ++ [y]))) := by
  obtain ⟨s1, ys, e, a⟩ := m
  have e' := s _ _ e
  have fx : Fix H' (upd H' D (.lst (ys ++ [y]))) := Fix.lst e'
  refine ⟨ys, e', ?_, fun b o eb => ?_, ys ++ [y], upd_same, ?_⟩
  · have := a.len
    have h2 := List.length_filter_le keep (ds.take i)
    have h3 : (ds.take i).length ≤ ds.length := by rw [List.length_take]; exact Nat.min_le_right _ _
    rw [sizeLine_eq]; omega
  · rw [upd_ne (ne_of_none eb hd)]; exact s b o (s1 b o eb)
  · rw [List.take_add_one, hi, List.filter_append]
    show All2 _ _ (_ ++ [d].filter keep)
    rw [List.filter_cons_of_pos k]
    exact (a.imp fun _ _ q => mono _ _ _ _ ((Fix.of s).trans fx) q).app (.cons (mono _ _ _ _ fx r) .nil)
theorem mf_no (m : MF H1 D ds keep Rel i H) {H' : Hp} {d : α} (mono : ∀ H H' y d, Fix H H' → Rel H y d → Rel H' y d) (hi : ds[i]? = some d) (s : Same H H') (k : keep d = false) : MF H1 D ds keep Rel (i + 1) H' := by
  obtain ⟨s1, ys, e, a⟩ := m
  refine ⟨s1.trans s, ys, s _ _ e, ?_⟩
  rw [List.take_add_one, hi, List.filter_append]
  show All2 _ _ (_ ++ [d].filter keep)
  rw [List.filter_cons_of_neg (by rw [k]; exact Bool.false_ne_true), List.filter_nil, List.append_nil]
  exact a.imp fun _ _ q => mono _ _ _ _ (Fix.of s) q
/-- a comprehension over the walk J -/
theorem lc_mf {J : It} {a : Addr} {S : Hp → Prop} {xs : List V} {ds : List α} (W : Wk J a S xs) (keep : α → Bool) (Rel : Hp → V → α → Prop) {g : TG} {tt : TT} {te : TE} {vs : List Nat} {σ : L2.St} {H1 : Hp} {D : Addr} {Qd : Hp → Prop} (hS : S H1) (hD : H1 D = none)
    (hlen : xs.length = ds.length)
    (hs : ∀ i x d H, xs[i]? = some x → ds[i]? = some d → Same H1 H → MF H1 D ds keep Rel i H → g x (wipe σ vs) H fun σ2 H2 => wipe σ2 vs = wipe σ vs ∧ tt σ2 H2 fun b H3 =>
      if b = true then te σ2 H3 fun y H4 => ∃ acc, H4 D = some (.lst acc) ∧ acc.length < sizeLine ∧ MF H1 D ds keep Rel (i + 1) (upd H4 D (.lst (acc ++ [y]))) else MF H1 D ds keep Rel (i + 1) H3)
    (hd : ∀ H ys, Same H1 H → H D = some (.lst ys) → All2 (Rel H) ys (ds.filter keep) → Qd H) :
    ∃ W : Nat → Nat → Hp → Prop, (∃ m, W 0 m (upd H1 D (.lst []))) ∧ ∀ i m H, W i m H →
      (J.stop i H ∧ Qd H) ∨ (J.go i H ∧ ∃ Nx : Hp → Prop, (∀ H', Nx H' → ∃ m', m' < m ∧ W (i + 1) m' H') ∧ ∀ v H', J.yld i H v H' → g v (wipe σ vs) H' fun σ2 H2 => wipe σ2 vs = wipe σ vs ∧ tt σ2 H2 fun b H3 =>
        if b = true then te σ2 H3 fun y H4 => ∃ acc, H4 D = some (.lst acc) ∧ acc.length < sizeLine ∧ Nx (upd H4 D (.lst (acc ++ [y]))) else Nx H3) := by
  have stand : ∀ {H}, Same H1 H → S H := fun {H} s => W.keep (fun o e => s _ _ e) hS
  refine ⟨fun i m H => m + i = xs.length ∧ MF H1 D ds keep Rel i H, ⟨xs.length, rfl, fun b o e => by rw [upd_ne (ne_of_none e hD)]; exact e, [], upd_same, .nil⟩, fun i m H ⟨e, p⟩ => ?_⟩
  cases m with
  | zero =>
    obtain rfl : i = xs.length := by omega
    obtain ⟨ys, ey, al⟩ := p.acc
    refine .inl ⟨W.stop H (stand p.same), hd H ys p.same ey ?_⟩
    rw [List.take_of_length_le (by omega)] at al
    exact al
  | succ m =>
    have hi : i < xs.length := by omega
    refine .inr ⟨W.go i H hi (stand p.same), MF H1 D ds keep Rel (i + 1), fun H' p' => ⟨m, Nat.lt_succ_self m, by omega, p'⟩, fun v H' y => ?_⟩
    obtain ⟨rfl, ev⟩ := W.yld i H v H' hi (stand p.same) y
    exact hs i v ds[i] H' ev (List.getElem?_eq_getElem (by omega)) p.same p
end
end Sq
namespace Sq
open PySem PySem.Spec PyProof.Rows L2 Hb St
theorem wk_range {lo : Int} {n : Nat} {a : Addr} : Wk (Itr lo n) a (fun _ => True) ((List.range n).map fun k => V.int (lo + (k : Nat))) where
  go := fun i H hi _ => by
    show i < n
    simpa using hi
  stop := fun H _ => by show n ≤ _; simp
  yld := fun i H v H' hi _ y => by
    obtain ⟨e, ev⟩ := (show H' = H ∧ v = .int (lo + (i : Nat)) from y)
    have hn : i < n := by simpa using hi
    exact ⟨e, by rw [ev, List.getElem?_map, List.getElem?_range hn] <;> rfl⟩
  keep := fun _ _ => trivial
/-- a for over the walk J -/
theorem for_sq {J : It} {a : Addr} {S : Hp → Prop} {xs : List V} (W : Wk J a S xs) {g : TG} {tb : TS} {D : Ends} {σ : L2.St} {H : Hp} (Pv : Nat → L2.St → Hp → Prop) (h0 : Pv 0 σ H) (hk : ∀ i σ H, Pv i σ H → S H)
    (hs : ∀ i σ H x, xs[i]? = some x → Pv i σ H → g x σ H fun σ2 H2 => tb { D with nx := Pv (i + 1), ct := Pv (i + 1), bk := D.nx } σ2 H2) (hd : ∀ σ H, Pv xs.length σ H → D.nx σ H) :
    ∃ W : Nat → Nat → L2.St → Hp → Prop, (∃ m, W 0 m σ H) ∧ ∀ i m σ H, W i m σ H →
      (J.stop i H ∧ D.nx σ H) ∨ (J.go i H ∧ ∃ N : L2.St → Hp → Prop, (∀ σ' H', N σ' H' → ∃ m', m' < m ∧ W (i + 1) m' σ' H') ∧ ∀ v H', J.yld i H v H' → g v σ H' fun σ2 H2 => tb { D with nx := N, ct := N, bk := D.nx } σ2 H2) := by
  refine ⟨fun i m σ H => m + i = xs.length ∧ Pv i σ H, ⟨xs.length, rfl, h0⟩, fun i m σ H ⟨e, p⟩ => ?_⟩
  cases m with
  | zero =>
    obtain rfl : i = xs.length := by omega
    exact .inl ⟨W.stop H (hk _ _ _ p), hd σ H p⟩
  | succ m =>
    refine .inr ⟨W.go i H (by omega) (hk _ _ _ p), Pv (i + 1), fun σ' H' p' => ⟨m, Nat.lt_succ_self m, by omega, p'⟩, fun v H' y => ?_⟩
    obtain ⟨rfl, ev⟩ := W.yld i H v H' (by omega) (hk _ _ _ p) y
    exact hs i σ H' v ev p
/-- a walk of enumerate -/
structure En (J : It) (a : Addr) (S : Hp → Prop) (xs : List V) : Prop where
  go : ∀ i H, i < xs.length → S H → J.go i H
  stop : ∀ H, S H → J.stop xs.length H
  yld : ∀ i H v H', S H → J.yld i H v H' → ∃ T x, v = .ref T ∧ H T = none ∧ H' = upd H T (.tup [.int (i : Nat), x]) ∧ xs[i]? = some x
theorem en_list {K : PySem.W.Frag} {a : Addr} {xs : List V} : En (Ite K a) a (fun H => SqL K H a xs) xs where
  go := fun i H hi s => ⟨xs, xs[i], s, List.getElem?_eq_getElem hi⟩
  stop := fun H s => ⟨xs, s, Nat.le_refl _⟩
  yld := fun i H v H' s ⟨T, x, e1, e2, e3, f⟩ => ⟨T, x, e1, e2, e3, f xs s⟩
theorem en_tup {K : PySem.W.Frag} {a : Addr} {xs : List V} : En (En.IteT K a) a (fun H => SqT K H a xs) xs where
  go := fun i H hi s => ⟨xs, xs[i], s, List.getElem?_eq_getElem hi⟩
  stop := fun H s => ⟨xs, s, Nat.le_refl _⟩
  yld := fun i H v H' s ⟨T, x, e1, e2, e3, f⟩ => ⟨T, x, e1, e2, e3, f xs s⟩
theorem for_en {J : It} {a : Addr} {S : Hp → Prop} {xs : List V} (W : En J a S xs) {g : TG} {tb : TS} {D : Ends} {σ : L2.St} {H : Hp} (Pv : Nat → L2.St → Hp → Prop) (h0 : Pv 0 σ H) (hk : ∀ i σ H, Pv i σ H → S H)
    (hs : ∀ i σ H x T, xs[i]? = some x → Pv i σ H → H T = none → g (.ref T) σ (upd H T (.tup [.int (i : Nat), x])) fun σ2 H2 => tb { D with nx := Pv (i + 1), ct := Pv (i + 1), bk := D.nx } σ2 H2) (hd : ∀ σ H, Pv xs.length σ H → D.nx σ H) :
    ∃ W : Nat → Nat → L2.St → Hp → Prop, (∃ m, W 0 m σ H) ∧ ∀ i m σ H, W i m σ H →
      (J.stop i H ∧ D.nx σ H) ∨ (J.go i H ∧ ∃ N : L2.St → Hp → Prop, (∀ σ' H', N σ' H' → ∃ m', m' < m ∧ W (i + 1) m' σ' H') ∧ ∀ v H', J.yld i H v H' → g v σ H' fun σ2 H2 => tb { D with nx := N, ct := N, bk := D.nx } σ2 H2) := by
  refine ⟨fun i m σ H => m + i = xs.length ∧ Pv i σ H, ⟨xs.length, rfl, h0⟩, fun i m σ H ⟨e, p⟩ => ?_⟩
  cases m with
  | zero =>
    obtain rfl : i = xs.length := by omega
    exact .inl ⟨W.stop H (hk _ _ _ p), hd σ H p⟩
  | succ m =>
    refine .inr ⟨W.go i H (by omega) (hk _ _ _ p), Pv (i + 1), fun σ' H' p' => ⟨m, Nat.lt_succ_self m, by omega, p'⟩, fun v H' y => ?_⟩
    obtain ⟨T, x, rfl, hT, rfl, ex⟩ := W.yld i H v H' (hk _ _ _ p) y
    exact hs i σ H x T ex p hT
theorem pi_or {X : Cx} {tg it : Expr} {w1 w2 : TI} (h1 : PI X tg it w1) (h2 : PI X tg it w2) : PI X tg it (fun σ H R => w1 σ H R ∨ w2 σ H R) := ⟨fun pins s σ H R I h => h.elim (h1.run pins s σ H R I) (h2.run pins s σ H R I)⟩
def rTupE (K : PySem.W.Frag) : List V → Hp → VK → Prop := fun xs H Q => ∃ p ys, xs = [V.ref p] ∧ ((SqL K H p ys ∧ ∀ l, H l = none → Q (.ref l) (upd H l (.tup ys))) ∨ (SqT K H p ys ∧ Q (.ref p) H))
theorem call_tupE {X : Cx} : CallR X (.type "tuple") (rTupE X.K) := call_tuple_of
end Sq

/-! comprehensions over zip and enumerate, dict comprehensions, max(.., default=..), D.get(x) of a dict of the text -/
namespace Zp
open PySem PySem.Spec PyProof.Rows L2 Hb St Sq RZ
/-- a walk of new pairs: where S stands, at the i-th turn the i-th of ps -/
structure Wp (J : It) (S : Hp → Prop) (ps : List (V × V)) : Prop where
  go : ∀ i H, i < ps.length → S H → J.go i H
  stop : ∀ H, S H → J.stop ps.length H
  yld : ∀ i H v H', i < ps.length → S H → J.yld i H v H' → ∃ T p, v = .ref T ∧ H T = none ∧ H' = upd H T (.tup [p.1, p.2]) ∧ ps[i]? = some p
  keep : ∀ {H H' : Hp}, Same H H' → S H → S H'
theorem zip_at {xs ys : List V} {i : Nat} {x y : V} (hx : xs[i]? = some x) (hy : ys[i]? = some y) : (xs.zip ys)[i]? = some (x, y) := by
  rw [List.getElem?_zip_eq_some]
  exact ⟨hx, hy⟩
theorem wp_tup {K : PySem.W.Frag} {a b : Addr} {xs ys : List V} : Wp (ItzT K a b) (fun H => SqT K H a xs ∧ SqT K H b ys) (xs.zip ys) where
  go := fun i H hi s => by
    rw [List.length_zip] at hi
    exact ⟨xs, ys, xs[i]'(by omega), ys[i]'(by omega), s.1, s.2, List.getElem?_eq_getElem _, List.getElem?_eq_getElem _⟩
  stop := fun H s => ⟨xs, ys, s.1, s.2, by rw [List.length_zip]; omega⟩
  yld := fun i H v H' hi s ⟨T, x, y, e1, e2, e3, f, g⟩ => ⟨T, (x, y), e1, e2, e3, zip_at (f xs s.1) (g ys s.2)⟩
  keep := fun k s => ⟨tupFix (Fix.of k) s.1, tupFix (Fix.of k) s.2⟩
theorem wp_lst {K : PySem.W.Frag} {a b : Addr} {xs ys : List V} : Wp (Itz K a b) (fun H => SqL K H a xs ∧ SqL K H b ys) (xs.zip ys) where
  go := fun i H hi s => by
    rw [List.length_zip] at hi
    exact ⟨xs, ys, xs[i]'(by omega), ys[i]'(by omega), s.1, s.2, List.getElem?_eq_getElem _, List.getElem?_eq_getElem _⟩
  stop := fun H s => ⟨xs, ys, s.1, s.2, by rw [List.length_zip]; omega⟩
  yld := fun i H v H' hi s ⟨T, x, y, e1, e2, e3, f, g⟩ => ⟨T, (x, y), e1, e2, e3, zip_at (f xs s.1) (g ys s.2)⟩
  keep := fun k s => ⟨lstSame k s.1, lstSame k s.2⟩
section
variable {α : Type}
/-- a comprehension over a walk of pairs -/
theorem lc_mp {J : It} {S : Hp → Prop} {ps : List (V × V)} {ds : List α} (W : Wp J S ps) (keep : α → Bool) (Rel : Hp → V → α → Prop) {g : TG} {tt : TT} {te : TE} {vs : List Nat} {σ : L2.St} {H1 : Hp} {D : Addr} {Qd : Hp → Prop} (hS : S H1) (hD : H1 D = none)
    (hlen : ps.length = ds.length) (mono : ∀ H H' y d, Fix H H' → Rel H y d → Rel H' y d)
    (hs : ∀ i T p d H, ps[i]? = some p → ds[i]? = some d → Same H1 H → H T = some (.tup [p.1, p.2]) → MF H1 D ds keep Rel i H → g (.ref T) (wipe σ vs) H fun σ2 H2 => wipe σ2 vs = wipe σ vs ∧ tt σ2 H2 fun b H3 =>
      if b = true then te σ2 H3 fun y H4 => ∃ acc, H4 D = some (.lst acc) ∧ acc.length < sizeLine ∧ MF H1 D ds keep Rel (i + 1) (upd H4 D (.lst (acc ++ [y]))) else MF H1 D ds keep Rel (i + 1) H3)
    (hd : ∀ H ys, Same H1 H → H D = some (.lst ys) → All2 (Rel H) ys (ds.filter keep) → Qd H) :
    ∃ W : Nat → Nat → Hp → Prop, (∃ m, W 0 m (upd H1 D (.lst []))) ∧ ∀ i m H, W i m H →
      (J.stop i H ∧ Qd H) ∨ (J.go i H ∧ ∃ Nx : Hp → Prop, (∀ H', Nx H' → ∃ m', m' < m ∧ W (i + 1) m' H') ∧ ∀ v H', J.yld i H v H' → g v (wipe σ vs) H' fun σ2 H2 => wipe σ2 vs = wipe σ vs ∧ tt σ2 H2 fun b H3 =>
        if b = true then te σ2 H3 fun y H4 => ∃ acc, H4 D = some (.lst acc) ∧ acc.length < sizeLine ∧ Nx (upd H4 D (.lst (acc ++ [y]))) else Nx H3) := by
  have stand : ∀ {H}, Same H1 H → S H := fun {H} s => W.keep s hS
  refine ⟨fun i m H => m + i = ps.length ∧ MF H1 D ds keep Rel i H, ⟨ps.length, rfl, fun b o e => by rw [upd_ne (ne_of_none e hD)]; exact e, [], upd_same, .nil⟩, fun i m H ⟨e, p⟩ => ?_⟩
  cases m with
  | zero =>
    obtain rfl : i = ps.length := by omega
    obtain ⟨ys, ey, al⟩ := p.acc
    refine .inl ⟨W.stop H (stand p.same), hd H ys p.same ey ?_⟩
    rw [List.take_of_length_le (by omega)] at al
    exact al
  | succ m =>
    have hi : i < ps.length := by omega
    refine .inr ⟨W.go i H hi (stand p.same), MF H1 D ds keep Rel (i + 1), fun H' p' => ⟨m, Nat.lt_succ_self m, by omega, p'⟩, fun v H' y => ?_⟩
    obtain ⟨T, x, rfl, hT, rfl, ex⟩ := W.yld i H v H' hi (stand p.same) y
    have s2 := same_new hT (.tup [x.1, x.2])
    obtain ⟨s1, ys, ey, al⟩ := p
    exact hs i T x ds[i] _ ex (List.getElem?_eq_getElem (by omega)) (s1.trans s2) upd_same ⟨s1.trans s2, ys, s2 _ _ ey, al.imp fun _ _ q => mono _ _ _ _ (Fix.of s2) q⟩
/-- a dict comprehension over enumerate: kvs of the first i items -/
theorem dc_en {J : It} {a : Addr} {S : Hp → Prop} {xs : List V} (W : Sq.En J a S xs) (kv : Nat → List (L2.Key × V)) {g : TG} {tt : TT} {tk tv : TE} {vs : List Nat} {σ : L2.St} {H1 : Hp} {D : Addr} {Qd : Hp → Prop} (hS : ∀ {H}, Same H1 H → S H) (hD : H1 D = none)
    (h0 : kv 0 = []) (hl : ∀ i, (kv i).length < sizeLine)
    (hs : ∀ i T x H, xs[i]? = some x → Same H1 H → H T = some (.tup [.int (i : Nat), x]) → H D = some (.dK (kv i)) → g (.ref T) (wipe σ vs) H fun σ2 H2 => wipe σ2 vs = wipe σ vs ∧ tt σ2 H2 fun b H3 =>
      b = true ∧ tk σ2 H3 fun y H4 => tv σ2 H4 fun z H5 => Same H H5 ∧ ∃ k, y = kV k ∧ putK (kv i) k z = kv (i + 1))
    (hd : ∀ H, Same H1 H → H D = some (.dK (kv xs.length)) → Qd H) (mono : ∀ {σ H} {Q Q' : L2.St → Hp → Prop}, (∀ σ H, Q σ H → Q' σ H) → ∀ v, g v σ H Q → g v σ H Q') (monot : ∀ {σ H} {Q Q' : Bool → Hp → Prop}, (∀ b H, Q b H → Q' b H) → tt σ H Q → tt σ H Q')
    (monok : ∀ {σ H} {Q Q' : VK}, (∀ v H, Q v H → Q' v H) → tk σ H Q → tk σ H Q') (monov : ∀ {σ H} {Q Q' : VK}, (∀ v H, Q v H → Q' v H) → tv σ H Q → tv σ H Q') :
    ∃ W : Nat → Nat → Hp → Prop, (∃ m, W 0 m (upd H1 D (.dK []))) ∧ ∀ i m H, W i m H →
      (J.stop i H ∧ Qd H) ∨ (J.go i H ∧ ∃ Nx : Hp → Prop, (∀ H', Nx H' → ∃ m', m' < m ∧ W (i + 1) m' H') ∧ ∀ v H', J.yld i H v H' → g v (wipe σ vs) H' fun σ2 H2 => wipe σ2 vs = wipe σ vs ∧ tt σ2 H2 fun b H3 =>
        if b = true then tk σ2 H3 fun y H4 => tv σ2 H4 fun z H5 => ∃ kvs k, y = kV k ∧ H5 D = some (.dK kvs) ∧ kvs.length < sizeLine ∧ Nx (upd H5 D (.dK (putK kvs k z))) else Nx H3) := by
  refine ⟨fun i m H => m + i = xs.length ∧ Same H1 H ∧ H D = some (.dK (kv i)), ⟨xs.length, rfl, fun b o e => by rw [upd_ne (ne_of_none e hD)]; exact e, by rw [upd_same, h0]⟩, fun i m H ⟨e, s, eD⟩ => ?_⟩
  cases m with
  | zero =>
    obtain rfl : i = xs.length := by omega
    exact .inl ⟨W.stop H (hS s), hd H s eD⟩
  | succ m =>
    have hi : i < xs.length := by omega
    refine .inr ⟨W.go i H hi (hS s), fun H' => Same H1 H' ∧ H' D = some (.dK (kv (i + 1))), fun H' p' => ⟨m, Nat.lt_succ_self m, by omega, p'⟩, fun v H' y => ?_⟩
    obtain ⟨T, x, rfl, hT, rfl, ex⟩ := W.yld i H v H' (hS s) y
    have s2 := same_new hT (.tup [.int (i : Nat), x])
    refine mono (fun σ2 H2 q => ⟨q.1, monot (fun b H3 q => ?_) q.2⟩) _ (hs i T x _ ex (s.trans s2) upd_same (s2 _ _ eD))
    obtain ⟨rfl, q⟩ := q
    rw [if_pos rfl]
    refine monok (fun y H4 q => monov (fun z H5 q => ?_) q) q
    obtain ⟨s3, k, ek, ep⟩ := q
    refine ⟨_, k, ek, s3 _ _ (s2 _ _ eD), hl i, fun b o e => ?_, by rw [upd_same, ep]⟩
    rw [upd_ne (ne_of_none e hD)]
    exact s3 _ _ ((s.trans s2) _ _ e)
end
/-! ### max(xs, default=d) -/
def rMaxDf (K : PySem.W.Frag) : List V → List V → Hp → VK → Prop := fun xs zs H Q => ∃ (a : Addr) (ns : List Int) (d : Int), xs = [.ref a] ∧ zs = [.int d] ∧ SqL K H a (ns.map V.int) ∧ (ns = [] → Q (.int d) H) ∧ ∀ m, m ∈ ns → (∀ y ∈ ns, y ≤ m) → Q (.int m) H
theorem maxOf_is (x : Int) : ∀ xs : List Int, PySem.W.maxOf x xs ∈ x :: xs ∧ ∀ y ∈ x :: xs, y ≤ PySem.W.maxOf x xs := by
  intro xs
  unfold PySem.W.maxOf
  induction xs generalizing x with
  | nil => exact ⟨List.mem_cons_self, fun y hy => by rw [List.mem_singleton.mp hy]; exact Int.le_refl _⟩
  | cons z xs ih =>
    rw [List.foldl_cons]
    by_cases c : PySem.W.DatumOrd.lt x z = true
    · rw [if_pos c]
      have c' : x < z := of_decide_eq_true c
      obtain ⟨h1, h2⟩ := ih z
      refine ⟨List.mem_cons_of_mem _ h1, fun y hy => ?_⟩
      rcases List.mem_cons.mp hy with e | hy
      · have := h2 z List.mem_cons_self
        omega
      · exact h2 y hy
    · rw [if_neg c]
      have c' : ¬ x < z := fun q => c (decide_eq_true q)
      obtain ⟨h1, h2⟩ := ih x
      have hx := h2 x List.mem_cons_self
      refine ⟨?_, fun y hy => ?_⟩
      · rcases List.mem_cons.mp h1 with e | h1
        · rw [e]; exact List.mem_cons_self
        · exact List.mem_cons_of_mem _ (List.mem_cons_of_mem _ h1)
      · rcases List.mem_cons.mp hy with e | hy
        · omega
        · rcases List.mem_cons.mp hy with e | hy
          · omega
          · exact h2 y (List.mem_cons_of_mem _ hy)
theorem cr_maxDf {X : Cx} (hc : X.calm = true) (hu : X.A.units + 64 < cLine) : CallRK X (.builtin "max") ["default"] (rMaxDf X.K) := by
  intro pins s σ H xs zs us ws Q I r1 r2 h
  obtain ⟨a, ns, d, rfl, rfl, hs, q0, q1⟩ := h
  obtain ⟨its, rv, hl, _⟩ := I.list hs
  cases r2 with
  | cons rd rt =>
    cases rt
    obtain ⟨t, rfl⟩ := rd
    rw [Vals.ref1 r1]
    show wpAny (model X.prog X.w) X.A (call (.builtin "max") [.ref a] [(Str.ofString "default", _)]) _ _ s
    refine PySem.W.max_list_datum_default (α := Int) (I.ok.hd hc) hl.isList (PySem.W.HoldAll.of_ints rv.ints) (by show X.A.units + 1 + 0 < cLine; omega) (fun e h' tk hk => ⟨.int d, H, I.kept hk, ⟨_, rfl⟩, q0 e⟩) fun y ys i v h' tk e hv hh hk => ?_
    obtain ⟨as, hr⟩ := hh
    obtain ⟨m1, m2⟩ := maxOf_is y ys
    generalize PySem.W.maxOf y ys = m at hr m1 m2
    have hr : Reads h' v (.int m) as := hr
    cases hr with
    | int _ t => exact ⟨.int m, H, I.kept hk, ⟨t, rfl⟩, q1 m (e ▸ m1) fun y hy => m2 y (e ▸ hy)⟩
/-! ### D.get(x), D a dict of the text -/
def tKGet (K : PySem.W.Frag) (w : World) (p : Addr) (ty : TE) : TE := fun σ H Q => ty σ H fun y H2 => ∃ z v, y = .str z ∧ KDct K w p z v ∧ Q v H2
theorem pe_kget {X : Cx} {x : Str} {xp : Pos} {e : Expr} {apos cpos : Pos} {ty : TE} {p : Addr} {es : Array DictEntry} {n : Nat} (D : KDict X.K X.w p es n) (hg : Gl X x) (hm : X.mg x = some (.ref p)) (he : PE X e ty) (m : M1 X (.Name x xp) "get" apos e cpos) (hdb : (x == ("__debug__" : Str)) = false := by decide) :
    PE X (.Call (.Attribute (.Name x xp) "get" apos) [e] [] cpos) (tKGet X.K X.w p ty) := by
  refine ⟨fun pins s σ H Q I h => ?_⟩
  have ho : PE X (.Name x xp) (tC (.ref p)) := pe_glob hg hm rfl hdb
  refine wpAny_Call_method m.base m.few m.line PySem.F.plainAttrs_dict PySem.F.slot_dict_get PySem.F.type_dict_get (thn (ho.run pins s σ H (fun x H1 => x = .ref p ∧ H1 = H) I ⟨rfl, rfl⟩) fun u s1 ⟨x, H1, I1, rx, ex, eH⟩ => ?_)
  subst ex eH
  obtain rfl : u = Value.ref p := rx
  have mo := PySem.W.mapOf_K (prog := X.prog) (w := X.w) I1.kIn D.at_ D.lit
  refine ⟨mo.typeIs, fun b q => ?_, ?_⟩
  · cases q
    exact ⟨_, I1.kIn _ _ D.at_, rfl⟩
  rw [m.trees]
  refine Calls.callWith_builtin rfl (Calls.evalArgs_plain (Calls.spliced_cons (thn (he.run pins s1 σ H1 _ I1 h) fun iv s2 ⟨y, H2, I2, ry, z, v, ey, ⟨es', n', u0, hl, hk, eu, ru⟩, q2⟩ => Calls.spliced_nil ?_)))
  subst ey
  obtain ⟨t, rfl⟩ := ry
  have mo2 := PySem.W.mapOf_K (prog := X.prog) (w := X.w) I2.kIn hl hk
  refine call_meetsIn PySem.F.slot_dict_get mo2.typeIs PySem.F.entry_dict_get (PySem.F.args_dict_get_2 _ _) (meets_dict_get _ p (strKind_is X.prog X.w z t) D.low) ⟨_, mo2, ?_⟩
  rw [PySem.W.find_K hl eu]
  exact ⟨v, H2, I2.tok _, ru, q2⟩
end Zp
namespace Zp
open PySem PySem.Spec PyProof.Rows L2 Hb St Sq RZ
theorem pe_or2 {X : Cx} {e : Expr} {t1 t2 : TE} (h1 : PE X e t1) (h2 : PE X e t2) : PE X e (fun σ H Q => t1 σ H Q ∨ t2 σ H Q) := ⟨fun pins s σ H Q I h => h.elim (h1.run pins s σ H Q I) (h2.run pins s σ H Q I)⟩
theorem _root_.L2.Room.units65 {k : Nat} {A : Around} (r : Room k A) : A.units + 65 < cLine := by have := r.un; omega
end Zp

/-! readings -/
namespace Rd
open PySem PySem.Spec PyProof.Rows L2 Hb St Sq RZ
section
variable {K : PySem.W.Frag} {H : Hp} {Q : VK}
theorem ty_tup {a : Addr} {xs : List V} (h : SqT K H a xs) : TyX K H (.ref a) (.type "tuple") := by
  rcases h with (e | ⟨o, e⟩) | ⟨o, its, n, e, c, _⟩
  · exact .base (.tup e)
  · exact .fTuple e
  · exact .kTuple e c
theorem ty_lst {a : Addr} {xs : List V} (h : SqL K H a xs) : TyX K H (.ref a) (.type "list") := by
  rcases h with (e | ⟨o, e⟩) | ⟨o, its, n, e, c, _⟩
  · exact .base (.lst e)
  · exact .base (.frz e)
  · exact .kList e c
theorem rd_isTup {a : Addr} {xs : List V} (h : SqT K H a xs) (q : Q (.bl true) H) : rIsi K [.ref a, .ty "tuple"] H Q := ⟨_, _, _, _, _, rfl, .ty "tuple", ty_tup h, kit_ty (r := true) (by decide +kernel), q⟩
theorem rd_noTupL {a : Addr} {xs : List V} (h : SqL K H a xs) (q : Q (.bl false) H) : rIsi K [.ref a, .ty "tuple"] H Q := ⟨_, _, _, _, _, rfl, .ty "tuple", ty_lst h, kit_ty (r := false) (by decide +kernel), q⟩
theorem rd_noTupS {x : Str} (q : Q (.bl false) H) : rIsi K [.str x, .ty "tuple"] H Q := ⟨_, _, _, _, _, rfl, .ty "tuple", .base (.str x), kit_ty (r := false) (by decide +kernel), q⟩
theorem rd_noTupI {i : Int} (q : Q (.bl false) H) : rIsi K [.int i, .ty "tuple"] H Q := ⟨_, _, _, _, _, rfl, .ty "tuple", .base (.int i), kit_ty (r := false) (by decide +kernel), q⟩
theorem rd_isStr {x : Str} (q : Q (.bl true) H) : rIsi K [.str x, .ty "str"] H Q := ⟨_, _, _, _, _, rfl, .ty "str", .base (.str x), kit_ty (r := true) (by decide +kernel), q⟩
theorem rd_noStr {i : Int} (q : Q (.bl false) H) : rIsi K [.int i, .ty "str"] H Q := ⟨_, _, _, _, _, rfl, .ty "str", .base (.int i), kit_ty (r := false) (by decide +kernel), q⟩
theorem sIx1 {n : Nat} (h : 1 ≤ n) : HT.sIx n 0 (some 1) = 1 := by rw [show (1 : Int) = ((1 : Nat) : Int) from rfl, HT.sIx_nat]; omega
theorem cut1 {v : V} {xs : List V} : cutV (v :: xs) (some 1) none = xs := by
  unfold cutV
  rw [sIx1 (by simp), HT.sIx_none, List.drop_one, List.tail_cons, List.take_of_length_le (by simp)]
/-- a tuple from its second thing on -/
theorem rd_tail {a : Addr} {v : V} {xs : List V} (h : SqT K H a (v :: xs)) (q : ∀ p H', H p = none → Same H H' → H' p = some (.tup xs) → Q (.ref p) H') : rSlA K (.ref a) (some 1) none H Q := by
  refine ⟨a, _, rfl, h, fun ⟨z, _⟩ => ?_, fun _ p hp => ?_⟩
  · rw [sIx1 (by simp)] at z
    cases z
  · rw [cut1]
    exact q p _ hp (same_new hp _) upd_same
theorem rd_all {a : Addr} {bs : List Bool} (h : SqL K H a (bs.map V.bl)) (q : Q (.bl (bs.all id)) H) : rAll K [.ref a] H Q := ⟨a, bs, rfl, h, q⟩
theorem bl_true {α : Type} {ys : List V} {ds : List α} (h : All2 (fun (y : V) (_ : α) => y = .bl true) ys ds) : ys = (ds.map fun _ => true).map V.bl := by
  rw [List.map_map]
  exact h.map_eq fun a b e => e
theorem rd_allT {α : Type} {a : Addr} {ys : List V} {ds : List α} (h : H a = some (.lst ys)) (al : All2 (fun (y : V) (_ : α) => y = .bl true) ys ds) (q : Q (.bl true) H) : rAll K [.ref a] H Q := by
  refine rd_all (bs := ds.map fun _ => true) (SqL.of (by rw [← bl_true al]; exact h)) ?_
  rw [show ((ds.map fun _ => true).all id) = true by simp]
  exact q
theorem at_map {α β : Type} {f : α → β} {l : List α} {i : Nat} {x : β} {d : α} (h : (l.map f)[i]? = some x) (k : l[i]? = some d) : x = f d := by
  rw [List.getElem?_map, k] at h
  exact (Option.some.inj h).symm
theorem at_mem {α : Type} {l : List α} {i : Nat} {d : α} (k : l[i]? = some d) : d ∈ l := List.mem_of_getElem? k
theorem filter_all {α : Type} (l : List α) : l.filter (fun _ => true) = l := List.filter_eq_self.mpr fun _ _ => rfl
/-- an item from behind -/
theorem at_last {xs : List V} {x : V} : atI (xs ++ [x]) (-1) = some x := by
  unfold atI ixN
  rw [List.length_append, if_neg (by decide), if_pos (by simp; omega)]
  show (xs ++ [x])[(-1 + ((xs.length + [x].length : Nat) : Int)).toNat]? = some x
  rw [show (-1 + ((xs.length + [x].length : Nat) : Int)).toNat = xs.length by simp; omega, List.getElem?_append_right (Nat.le_refl _), Nat.sub_self]
  rfl
theorem at_nat {α : Type} {xs : List α} {i : Nat} {x : α} (h : xs[i]? = some x) : atI xs (i : Nat) = some x := by
  have hi := (List.getElem?_eq_some_iff.mp h).1
  unfold atI ixN
  rw [if_pos (by omega), if_pos (by omega)]
  exact h
theorem at0 {α : Type} {x : α} {xs : List α} : atI (x :: xs) 0 = some x := at_nat (i := 0) rfl
theorem at1 {α : Type} {x y : α} {xs : List α} : atI (x :: y :: xs) 1 = some y := at_nat (i := 1) rfl
theorem at2 {α : Type} {x y z : α} {xs : List α} : atI (x :: y :: z :: xs) 2 = some z := at_nat (i := 2) rfl
theorem rd_slc {σ : L2.St} {i : Nat} {a : Addr} {v : V} {xs : List V} {tr : TA} {R : List V → Hp → Prop} (e : σ[i]? = some (some (.ref a))) (h : SqT K H a (v :: xs)) (q : ∀ p H', H p = none → Same H H' → H' p = some (.tup xs) → tr σ H' fun ys H2 => R (.ref p :: ys) H2) :
    tCons (tSl (rSlA K) (tVar i) (tPart (tC (.int 1))) tNoPart) tr σ H R := by
  refine ⟨_, e, 1, rfl, ?_⟩
  exact rd_tail (Q := fun x H1 => tr σ H1 fun ys H2 => R (x :: ys) H2) h q
end
end Rd

/-! sorted of a list of data: texts, ints, tuples of these; tuples of which the first is empty too -/
namespace PySem.SeqAt
open AutoSeq1 (wpAny_loadPart')
open MeetsSeq MeetsSeq2 MeetsSeq3 SeqRoads2
section
variable {A : Around} {s : Shared}
theorem call_tuple_lt {prog : Program} {w : World} {E : Value → Shared → Prop} {Q : Value → Shared → Prop} {l b : Addr} {items items2 : Array Value} {e r : Nat → Bool} (hl : s.heap.IsTuple l items) (hb : s.heap.IsTuple b items2)
    (he : ∀ j (h1 : j < items.size) (h2 : j < items2.size), EqAt A.in1 s items[j] items2[j] (e j)) (hr : ∀ j (h1 : j < items.size) (h2 : j < items2.size), e j = false → RcLt A.in1 s items[j] items2[j] (r j))
    (h : Q (.bool (firstLt e r (decide (items.size < items2.size)) (List.range (min items.size items2.size)))) s) : wpAny (model prog w) A (call (.builtin "tuple.__lt__") [.ref l, .ref b]) Q E s := by
  obtain ⟨⟨cls, dd, data, sl⟩, ho, hc, n, hd⟩ := id hl
  obtain ⟨⟨cls2, dd2, data2, sl2⟩, ho2, hc2, n2, hd2⟩ := id hb
  simp only at hc hd hc2 hd2
  subst hc hd hc2 hd2
  exact call_meets F.slot_tuple_lt ⟨_, ho, rfl⟩ F.entry_tuple_lt (F.args_tuple_lt_2 _ _) (tuple_ltAt l b items items2 n n2 dd dd2 sl sl2 e r) ⟨ho, ho2, he, hr, h⟩
end
end PySem.SeqAt
namespace PySem.W
open PySem PySem.Calls PyProof.Rows PySem.SeqAt
section
variable {prog : Program} {w : World} {A : Around} {E : Value → Shared → Prop} {s : Shared}
theorem oneLt_tup {xs ys : List PyData} {a b : Value} {as bs : List Addr} {Q : Bool → Shared → Prop} (ra : Reads s.heap a (.tuple xs) as) (rb : Reads s.heap b (.tuple ys) bs) (hal : alikeAll xs ys = true)
    (hu : A.units + min (PyData.depth (.tuple xs)) (PyData.depth (.tuple ys)) < cLine) (hq : Q (dataLt (.tuple xs) (.tuple ys)) s) : wpAny (model prog w) A (oneLt' true a b) Q E s := by
  cases ra with
  | @tuple l o vs n _ as₁ h1 h2 h3 h4 =>
    cases rb with
    | @tuple l' o' vs' n' _ bs₁ k1 k2 k3 k4 =>
      have n1 : vs.size = xs.length := by simpa using SeqAt.ReadsAll.length _ _ _ h4
      have n2 : vs'.size = ys.length := by simpa using SeqAt.ReadsAll.length _ _ _ k4
      rw [dataLt_tuple, ← firstLt_toks xs ys hal, ← n1, ← n2] at hq
      rw [oneLt'_eq]
      simp only [if_true]
      refine wpAny_bind (wpAny_cRoomFor (room_here hu) ?_)
      refine wpAny_bind (wpAny_callSpecialIfBound?_slot (T := "tuple") ⟨_, h1, h2⟩ F.slot_tuple_lt (call_tuple_lt (e := pairEq xs ys) (r := fun j => dataLt (xs.getD j .none) (ys.getD j .none)) ⟨_, h1, h2, _, h3⟩ ⟨_, k1, k2, _, k3⟩ (fun j j1 j2 => ?_) (fun j j1 j2 hj => ?_) ?_))
      · have := eqAt_alikeAll xs ys A.in1 s vs.toList vs'.toList _ _ h4 k4 hal (room_in hu) j (by simpa using j1) (by simpa using j2)
        simpa using this
      · have := rcLt_alikeAll xs ys A.in1 s vs.toList vs'.toList _ _ h4 k4 hal (room_in hu) j (by simpa using j1) (by simpa using j2) hj
        simpa using this
      · exact wpAny_truthy_bool hq
/-- tuples, the first of them empty -/
def Tup0 (ds : List PyData) : Prop := (∀ d, d ∈ ds → ∃ xs, d = .tuple xs) ∧ ∃ r, ds = .tuple [] :: r
theorem tup_firsts {M : Model} {ds : List PyData} : ∀ {vs : List Value} {ds : List PyData}, EachIs (fun v d => ∃ as, Reads s.heap v d as) vs ds → (∀ d, d ∈ ds → ∃ xs, d = .tuple xs) →
    ∃ fs : List (Option Value), fs.length = vs.length ∧ (∀ r, ds = .tuple [] :: r → fs[0]? = some none) ∧ ∀ {Q : List (Option Value) → Shared → Prop}, Q fs s → wpAny M A (vs.mapM firstOfTuple') Q E s
  | _, _, .nil, _ => ⟨[], rfl, fun r e => (by cases e), fun h => (by rw [List.mapM_nil]; exact wpAny_pure h)⟩
  | _, _, .cons (a := v) (b := d) ⟨as, r⟩ t, ht => by
    obtain ⟨fs, h1, h2, h3⟩ := tup_firsts (M := M) (ds := ds) t fun d hd => ht d (List.mem_cons_of_mem _ hd)
    obtain ⟨xs, rfl⟩ := ht d (List.mem_cons_self ..)
    cases r with
    | @tuple a o ys n _ _ ho hc hd hr =>
      refine ⟨ys[0]? :: fs, by rw [List.length_cons, List.length_cons, h1], fun r e => ?_, fun {Q} h => ?_⟩
      · cases e
        have : ys.toList = [] := by
          generalize ys.toList = l at hr
          cases hr; rfl
        have e2 : ys[0]? = none := by rw [← Array.getElem?_toList, this]; rfl
        rw [e2]; rfl
      · rw [List.mapM_cons]
        refine wpAny_bind ?_
        rw [kas_first_eq]
        refine wpAny_bind (Looks.here (show Looks M s.heap (typeOf (.ref a)) o.cls from (Looks.ld ho).andThen .now) ?_)
        rw [hc, if_neg (by first | decide | simp)]
        refine wpAny_bind (listItems_at ho hd (wpAny_pure ?_))
        exact wpAny_bind (h3 (Q := fun bs s' => wpAny M A (pure (ys[0]? :: bs)) Q E s') (wpAny_pure h))
theorem tup0_kind {M : Model} {vs : List Value} {ds : List PyData} {Q : SortKind → Shared → Prop} (e : EachIs (fun v d => ∃ as, Reads s.heap v d as) vs ds) (h0 : Tup0 ds) (h : Q oneType' s) :
    wpAny M A (keyKind' vs.toArray) Q E s := by
  obtain ⟨ht, r, er⟩ := h0
  obtain ⟨fs, h1, h2, h3⟩ := tup_firsts (M := M) (A := A) (E := E) (ds := ds) e ht
  have h2 := h2 r er
  have hne : vs ≠ [] := by
    rintro rfl
    have := e.length
    rw [er] at this
    simp at this
  rw [kat_kind_eq, List.mapM_toArray, map_eq_pure_bind]
  refine wpAny_bind (wpAny_bind (h3 (wpAny_pure ?_)))
  have hfs : ∃ fr, fs = none :: fr := by
    cases fs with
    | nil => simp at h2
    | cons x fr => simp at h2; subst h2; exact ⟨fr, rfl⟩
  obtain ⟨fr, rfl⟩ := hfs
  have hall : ((none :: fr : List (Option Value)).toArray.all fun x => x.isSome) = false := by simp
  rw [if_neg (by rw [hall]; decide)]
  have hf0 : (((none :: fr : List (Option Value)).toArray[0]?).bind id).isSome = false := by simp
  rw [if_neg (by rw [hf0]; decide)]
  have hT : ∀ v ∈ vs, Looks M s.heap (typeOf v) (.type "tuple") := fun v hv => by
    obtain ⟨d, hd, as, r⟩ := e.left v hv
    obtain ⟨xs, rfl⟩ := ht d hd
    exact looks_reads r
  obtain ⟨v₁, rest, rfl⟩ := List.exists_cons_of_ne_nil hne
  rw [oneTypeOnly'_eq, List.mapM_toArray, map_eq_pure_bind]
  refine wpAny_bind (wpAny_bind (wpAny_bind (kas_mapM (r := .type "tuple") _ (fun v hv Q' hq => (hT v hv).here hq) (wpAny_pure ?_))))
  have hall2 : ((List.map (fun _ => Value.type "tuple") (v₁ :: rest)).toArray.all fun x => x == Value.type "tuple") = true := by
    simp only [List.all_toArray, List.all_map, List.all_eq_true]
    intro _ _
    exact beq_self_eq_true _
  have h0 : (List.map (fun _ => Value.type "tuple") (v₁ :: rest)).toArray[0]? = some (Value.type "tuple") := by simp
  rw [h0]
  simp only [hall2, if_true]
  exact wpAny_pure (wpAny_pure h)
theorem SortsAt.tup0 {vs : List Value} {ds : List PyData} (e : EachIs (fun v d => ∃ as, Reads s.heap v d as) vs ds) (hal : AllAlike ds) (hk : Tup0 ds) (hu : ∀ d, d ∈ ds → A.units + d.depth < cLine) : SortsAt prog w A s (dataKind s.heap ds) vs := by
  have room : ∀ {d d' : PyData}, d ∈ ds → A.units + min d.depth d'.depth < cLine := fun {d d'} hd => Nat.lt_of_le_of_lt (Nat.add_le_add_left (Nat.min_le_left _ _) _) (hu d hd)
  refine ⟨fun v hv => ?_, oneType', ?_, fun h2 E Q hq => tup0_kind e hk hq⟩
  · obtain ⟨d, hd, as, r⟩ := e.left v hv
    exact ⟨_, dataKind_some hal hd r⟩
  · intro E x y a b Q ha hb hq
    obtain ⟨d, as, hd, ra, rfl⟩ := dataKind_inv ha
    obtain ⟨d', as', hd', rb, rfl⟩ := dataKind_inv hb
    rw [keyLt'_oneType]
    have hr := room (d' := d') hd
    have hdd := hal d hd d' hd'
    obtain ⟨xs, rfl⟩ := hk.1 d hd
    obtain ⟨ys, rfl⟩ := hk.1 d' hd'
    exact oneLt_tup ra rb (by simpa [alike] using hdd) hr hq
section
variable {β : Type} {vs : List Value} {bs : List β} {enc : β → PyData} {R : Value → β → Prop}
theorem sorted_dataT {l : Addr} {Q : Value → Shared → Prop} (hl : s.heap.IsList l vs.toArray) (e : EachIs R vs bs) (er : EachIs (fun v b => ∃ as, Reads s.heap v (enc b) as) vs bs) (hal : AllAlike (bs.map enc)) (hk : Sortable (bs.map enc) ∨ Tup0 (bs.map enc)) (hL : bs.length ≤ sizeLine)
    (hu : ∀ b, b ∈ bs → A.units + 2 + (enc b).depth < cLine) (h : ∀ out, out.length = bs.length → EachIs R out (bs.mergeSort (dataLe false enc)) → Q (.ref (s.heap.objs.size + 1)) { s with heap := sortedAll s.heap vs (List.toArray out) }) :
    wpAny (model prog w) A (call (.builtin "sorted") [.ref l]) Q E s := by
  rcases hk with hk | hk
  · exact sorted_data hl e er hal hk hL hu h
  have er' : EachIs (fun v b => ∃ as, Reads (sortingHeap (copyHeap s.heap vs) (s.heap.objs.size + 1) vs) v (enc b) as) vs bs := er.mono fun _ _ ⟨as, r⟩ => ⟨as, PyProof.Rows.Reads.keeps (fun _ _ => sorting_copy_old) r⟩
  exact sorted_vals hl (SortsAt.tup0 (s := { s with heap := sortingHeap (copyHeap s.heap vs) (s.heap.objs.size + 1) vs }) (each_map (R := fun v d => ∃ as, Reads (sortingHeap (copyHeap s.heap vs) (s.heap.objs.size + 1) vs) v d as) enc er') hal hk (bound_map hu)) (by rw [e.length]; exact hL)
    (h _ (by rw [sortVals_length false rfl]; exact e.length) (sortVals_data false e er' hal))
end
end
end PySem.W
namespace L2
open PySem PySem.Spec PyProof.Rows PySem.W
/-- sorted(xs), xs a list that reads as data (bs: the items, each with its datum): a new list -/
def rSortD (K : PySem.W.Frag) : List V → Hp → VK → Prop := fun vs H Q => ∃ (a : Addr) (bs : List (V × PyData)), vs = [V.ref a] ∧ SqL K H a (bs.map (·.1)) ∧ (∀ b ∈ bs, Dp K H b.1 b.2 ∧ b.2.depth ≤ 20) ∧ AllAlike (bs.map (·.2)) ∧ (Sortable (bs.map (·.2)) ∨ Tup0 (bs.map (·.2))) ∧
  ∀ p, H p = none → Q (.ref p) (upd H p (.lst ((bs.mergeSort (dataLe false (·.2))).map (·.1))))
theorem each_vals : ∀ {us : List Value} {bs : List (V × PyData)}, EachIs (fun u b => RelV b.1 u) us bs → Vals (bs.map (·.1)) us
  | _, _, .nil => .nil
  | _, _, .cons h t => .cons h (each_vals t)
theorem vals_each : ∀ {us : List Value} {bs : List (V × PyData)}, Vals (bs.map (·.1)) us → EachIs (fun u b => RelV b.1 u) us bs
  | _, [], h => by cases h; exact .nil
  | _, b :: bs, h => by cases h with | cons h1 h2 => exact .cons h1 (vals_each h2)
section
variable {X : Cx}
theorem cr_sortD (hu : X.A.units + 64 < cLine) : CallR X (.builtin "sorted") (rSortD X.K) := by
  intro pins s σ H vs us Q I r h
  obtain ⟨a, bs, rfl, hs, hx, hal, hk, q⟩ := h
  obtain ⟨its, rv, hl, hz⟩ := I.list hs
  obtain ⟨u, rfl, ru⟩ := vals1 r
  obtain rfl : u = Value.ref a := ru
  have e := vals_each rv
  have hm : ∀ {us : List Value} {cs : List (V × PyData)}, EachIs (fun u b => RelV b.1 u) us cs → (∀ b ∈ cs, b ∈ bs) → EachIs (fun v b => ∃ as, Reads s.heap v ((·.2) b) as) us cs := by
    intro us cs h
    induction h with
    | nil => intro _; exact .nil
    | cons h1 _ ih => intro hb; exact .cons (Dp.reads I _ _ _ (hx _ (hb _ (List.mem_cons_self ..))).1 h1) (ih fun b m => hb b (List.mem_cons_of_mem _ m))
  rw [List.length_map] at hz
  refine sorted_dataT (enc := (·.2)) hl.isList e (hm e fun _ h => h) hal hk hz (fun b hb => ?_) fun out ho eo => ?_
  · have := (hx b hb).2
    omega
  · obtain ⟨n, hn⟩ := sortedAll_at s.heap its out.toArray
    have hv := each_vals eo
    refine ⟨.ref (s.heap.objs.size + 1), upd H (s.heap.objs.size + 1) (.lst ((bs.mergeSort (dataLe false (·.2))).map (·.1))), I.laid (t' := s.toks) (fun _ _ => sortedAll_old) (Nat.le_succ _) ⟨?_, out, n, hv, hn⟩, rfl, q _ (I.hok.fresh (Nat.le_succ _))⟩
    rw [List.length_map, List.length_mergeSort]
    exact hz
end
end L2

/-! names and data that may be compared by == -/
namespace Da
open PySem PySem.Spec PyProof.Rows L2 Hb St Sq
def IsNm (x : Str) : Prop := 0 < x.length ∧ x.length ≤ 8 ∧ ∀ c ∈ x.cps.toList, 97 ≤ c ∧ c < 123
/-! ### names -/
theorem az_all : ((List.range 26).all fun k => Unicode.isAlpha (97 + k) && Unicode.isLower (97 + k) && !Unicode.isUpper (97 + k) && !Unicode.isTitle (97 + k)) = true := by decide +kernel
theorem az {c : Nat} (h : 97 ≤ c ∧ c < 123) : Unicode.isAlpha c = true ∧ Unicode.isLower c = true ∧ Unicode.isUpper c = false ∧ Unicode.isTitle c = false := by
  have q := List.all_eq_true.mp az_all (c - 97) (List.mem_range.mpr (by omega))
  rw [show 97 + (c - 97) = c by omega] at q
  simp only [Bool.and_eq_true, Bool.not_eq_true'] at q
  exact ⟨q.1.1.1, q.1.1.2, q.1.2, q.2⟩
theorem nm_all {x : Str} (h : IsNm x) {p : Nat → Bool} (k : ∀ c, 97 ≤ c ∧ c < 123 → p c = true) : x.cps.all p = true := by
  rw [Array.all_eq_true_iff_forall_mem]
  exact fun c hc => k c (h.2.2 c (Array.mem_toList_iff.mpr hc))
theorem nm_ascii {x : Str} (h : IsNm x) : Txt.isascii x = true := nm_all h fun c hc => by simp; omega
theorem nm_alpha {x : Str} (h : IsNm x) : Txt.isalpha x = true := by
  unfold Txt.isalpha
  rw [nm_all h fun c hc => (az hc).1, decide_eq_true h.1]; rfl
theorem nm_lower {x : Str} (h : IsNm x) : Txt.islower x = true := by
  unfold Txt.islower
  have h1 : x.cps.any Unicode.isLower = true := by
    rw [Array.any_eq_true]
    have hp : 0 < x.cps.size := h.1
    exact ⟨0, hp, (az (h.2.2 _ (by simp))).2.1⟩
  have h2 : (x.cps.any fun c => Unicode.isUpper c || Unicode.isTitle c) = false := by
    rw [Array.any_eq_false]
    intro i hi
    have := az (h.2.2 x.cps[i] (by simp))
    rw [this.2.2.1, this.2.2.2]; decide
  rw [h1, h2]; rfl
theorem eqv_int (a b : Int) : PyData.eqv (.int a) (.int b) = decide (a = b) := by
  show (a == b) = _
  by_cases h : a = b
  · subst h; simp
  · simp [h]
theorem eqv_str (a b : Str) : PyData.eqv (.str a) (.str b) = decide (a = b) := by
  show (a == b) = _
  by_cases h : a = b
  · subst h; simp
  · rw [decide_eq_false h]; exact beq_eq_false_iff_ne.mpr h
theorem eqvAll_map {α : Type} [DecidableEq α] {f : α → PyData} (h : ∀ a b, PyData.eqv (f a) (f b) = decide (a = b)) : ∀ xs ys : List α, PyData.eqvAll (xs.map f) (ys.map f) = decide (xs = ys)
  | [], [] => rfl
  | [], _ :: _ => rfl
  | _ :: _, [] => rfl
  | x :: xs, y :: ys => by
    show (PyData.eqv (f x) (f y) && PyData.eqvAll (xs.map f) (ys.map f)) = _
    rw [h, eqvAll_map h xs ys, ← Bool.decide_and]
    exact decide_eq_decide.mpr (by rw [List.cons.injEq])
/-- may be compared, no deeper than n -/
def Sh (n : Nat) (d : PyData) : Prop := PyData.canLay0 d = true ∧ PyData.depth d ≤ n
theorem sh_all {α : Type} {f : α → PyData} {n : Nat} : ∀ {l : List α}, (∀ a ∈ l, Sh n (f a)) → PyData.canLayAll0 (l.map f) = true ∧ PyData.depthAll (l.map f) ≤ n
  | [], _ => ⟨rfl, Nat.zero_le _⟩
  | a :: l, h => by
    obtain ⟨h1, h2⟩ := h a List.mem_cons_self
    obtain ⟨k1, k2⟩ := sh_all fun b hb => h b (List.mem_cons_of_mem a hb)
    refine ⟨?_, Nat.max_le.mpr ⟨h2, k2⟩⟩
    show (PyData.canLay0 (f a) && PyData.canLayAll0 (l.map f)) = true
    rw [h1, k1]; rfl
theorem sh_tup {α : Type} {f : α → PyData} {n : Nat} {l : List α} (h : ∀ a ∈ l, Sh n (f a)) : Sh (n + 1) (.tuple (l.map f)) := let ⟨a, b⟩ := sh_all h; ⟨a, Nat.succ_le_succ b⟩
theorem sh_lst {α : Type} {f : α → PyData} {n : Nat} {l : List α} (h : ∀ a ∈ l, Sh n (f a)) : Sh (n + 1) (.list (l.map f)) := let ⟨a, b⟩ := sh_all h; ⟨a, Nat.succ_le_succ b⟩
theorem Sh.ok {n : Nat} {d : PyData} (h : Sh n d) (hn : n ≤ 64) : SeqAt.shaped d = true := by
  unfold SeqAt.shaped
  rw [h.1, decide_eq_true (Nat.le_trans h.2 hn)]; rfl
theorem sh_int (n : Nat) (i : Int) : Sh n (.int i) := ⟨rfl, Nat.zero_le _⟩
theorem sh_str {n : Nat} {x : Str} (h : IsNm x) : Sh n (.str x) := ⟨nm_all h fun c hc => decide_eq_true (by omega), Nat.zero_le _⟩
section
variable {K : PySem.W.Frag} {H : Hp}
theorem dp_strs : ∀ xs : List Str, DpAll K H (xs.map V.str) (xs.map PyData.str)
  | [] => .nil
  | x :: xs => .cons (.str x) (dp_strs xs)
theorem dp_intl : ∀ xs : List Int, DpAll K H (xs.map V.int) (xs.map PyData.int)
  | [] => .nil
  | x :: xs => .cons (.int x) (dp_intl xs)
theorem dp_all {α : Type} {R : V → α → Prop} {f : α → PyData} (h : ∀ v a, R v a → Dp K H v (f a)) : ∀ {vs : List V} {ds : List α}, All2 R vs ds → DpAll K H vs (ds.map f)
  | _, _, .nil => .nil
  | _, _, .cons r t => .cons (h _ _ r) (dp_all h t)
end
end Da

/-! lots of names: their orders, all lots of some names, the least and the greatest of some -/
namespace Lo
open PySem PySem.Spec PyProof.Rows L2 St PySem.W
/-! ### orders -/
def lD (l : List Str) : PyData := .tuple (l.map .str)
def kD (l : List Str) : PyData := .tuple [.int (l.length : Nat), lD l]
def tokL (l : List Str) : List (Int ⊕ List Nat) := keyToksAll (l.map .str)
theorem tok_inj : ∀ {a b : List Str}, tokL a = tokL b → a = b
  | [], [], _ => rfl
  | [], b :: bs, h => by unfold tokL keyToksAll at h; simp at h
  | a :: as, [], h => by unfold tokL keyToksAll at h; simp at h
  | a :: as, b :: bs, h => by
    have h' : (Sum.inl 1 :: ([Sum.inr a.cps.toList] ++ tokL as) : List (Int ⊕ List Nat)) = Sum.inl 1 :: ([Sum.inr b.cps.toList] ++ tokL bs) := h
    simp only [List.cons_append, List.nil_append, List.cons.injEq, true_and, Sum.inr.injEq] at h'
    rw [str_of_cps h'.1, tok_inj h'.2]
section
variable {β : Type} {k : β → PyData}
theorem le_trans (a b c : β) (h : dataLe false k a b = true) (h2 : dataLe false k b c = true) : dataLe false k a c = true := by
  have e : ∀ x y : β, dataLe false k x y = !(lexLt itemOrd (keyToks (k y)) (keyToks (k x))) := fun _ _ => rfl
  rw [e, Bool.not_eq_true'] at h h2 ⊢
  cases q : lexLt itemOrd (keyToks (k c)) (keyToks (k a)) with
  | false => rfl
  | true =>
    rcases lex_negTrans (O := itemOrd) _ (keyToks (k b)) _ q with x | x
    · rw [h2] at x; cases x
    · rw [h] at x; cases x
theorem le_total (a b : β) : (dataLe false k a b || dataLe false k b a) = true := by
  have e : ∀ x y : β, dataLe false k x y = !(lexLt itemOrd (keyToks (k y)) (keyToks (k x))) := fun _ _ => rfl
  rw [e, e]
  cases q : lexLt itemOrd (keyToks (k b)) (keyToks (k a)) with
  | false => rfl
  | true =>
    cases q' : lexLt itemOrd (keyToks (k a)) (keyToks (k b)) with
    | false => rfl
    | true =>
      have := lex_trans (O := itemOrd) _ _ _ q q'
      rw [lex_irrefl] at this; cases this
theorem le_anti (inj : ∀ a b, keyToks (k a) = keyToks (k b) → a = b) {a b : β} (h : dataLe false k a b = true) (h2 : dataLe false k b a = true) : a = b := by
  have e : ∀ x y : β, dataLe false k x y = !(lexLt itemOrd (keyToks (k y)) (keyToks (k x))) := fun _ _ => rfl
  rw [e, Bool.not_eq_true'] at h h2
  exact inj a b (lex_total (O := itemOrd) _ _ h2 h)
theorem sort_uniq (inj : ∀ a b, keyToks (k a) = keyToks (k b) → a = b) {l m : List β} (p : l.Perm m) (hl : l.Pairwise (fun a b => dataLe false k a b = true)) : l = m.mergeSort (dataLe false k) :=
  List.Perm.eq_of_pairwise (fun _ _ _ _ h h2 => le_anti inj h h2) hl (List.pairwise_mergeSort le_trans le_total _) (p.trans (List.mergeSort_perm _ _).symm)
theorem sort_perm (inj : ∀ a b, keyToks (k a) = keyToks (k b) → a = b) {l m : List β} (p : l.Perm m) : l.mergeSort (dataLe false k) = m.mergeSort (dataLe false k) :=
  sort_uniq inj ((List.mergeSort_perm _ _).trans p) (List.pairwise_mergeSort le_trans le_total _)
end
theorem lD_inj (a b : List Str) (h : keyToks (lD a) = keyToks (lD b)) : a = b := tok_inj h
theorem kD_inj (a b : List Str) (h : keyToks (kD a) = keyToks (kD b)) : a = b := by
  have e : ∀ l : List Str, keyToks (kD l) = Sum.inl 1 :: ([Sum.inl ((l.length : Nat) : Int)] ++ (Sum.inl 1 :: (tokL l ++ [Sum.inl 0]))) := fun _ => rfl
  rw [e, e] at h
  simp only [List.cons_append, List.nil_append, List.cons.injEq, true_and] at h
  exact tok_inj (List.append_cancel_right h.2)
def lle : List Str → List Str → Bool := dataLe false lD
def kle : List Str → List Str → Bool := dataLe false kD
theorem alike_strs : ∀ a b : List Str, alikeAll (a.map .str) (b.map .str) = true
  | [], _ => by simp [alikeAll]
  | _ :: _, [] => by simp [alikeAll]
  | x :: xs, y :: ys => by
    show alikeAll (.str x :: xs.map .str) (.str y :: ys.map .str) = true
    rw [alikeAll, alike_strs xs ys]
    simp [alike]
theorem alike_lD (a b : List Str) : alike (lD a) (lD b) = true := by
  show alike (.tuple _) (.tuple _) = true
  unfold alike
  exact alike_strs a b
theorem alike_kD (a b : List Str) : alike (kD a) (kD b) = true := by
  show alike (.tuple [_, _]) (.tuple [_, _]) = true
  rw [alike, alikeAll, alikeAll, alikeAll, alike_lD]
  simp [alike]
theorem kle_len {a b : List Str} (h : kle a b = true) : a.length ≤ b.length := by
  unfold kle at h
  rw [dataLe_eq] at h
  have h : (!dataLt (kD b) (kD a)) = true := h
  rw [Bool.not_eq_true'] at h
  unfold kD at h
  rw [dataLt_pair (by simp [alike]) (alike_lD _ _), dataLt_int] at h
  by_cases c : b.length = a.length
  · omega
  · have e : PyData.eqv (.int ((b.length : Nat) : Int)) (.int ((a.length : Nat) : Int)) = false := by
      simp only [PyData.eqv, beq_eq_false_iff_ne, ne_eq]
      omega
    rw [e] at h
    simp at h
    omega
theorem lle_nil (a : List Str) : lle [] a = true := by
  unfold lle
  rw [dataLe_eq]
  show (!dataLt (lD a) (lD [])) = true
  rw [Bool.not_eq_true']
  cases a with
  | nil => exact lex_irrefl (O := itemOrd) _
  | cons x r =>
    show lexLt itemOrd (Sum.inl 1 :: ([Sum.inr x.cps.toList] ++ tokL r)) [Sum.inl 0] = false
    rw [lex_diff (O := itemOrd) (by simp)]
    rfl
/-! ### all lots -/
def growP (ls : List (List Str)) (n : Str) : List (List Str) := ls ++ ls.map (· ++ [n])
/-- all lots of names, one name after another -/
def LL (ns : List Str) : List (List Str) := ns.foldl growP [[]]
theorem mem_growP : ∀ (ns : List Str) (pre : List Str) (q : List (List Str)), (∀ x, x ∈ q ↔ x.Sublist pre) → ∀ x, x ∈ ns.foldl growP q ↔ x.Sublist (pre ++ ns)
  | [], pre, q, h, x => by simpa using h x
  | n :: ns, pre, q, h, x => by
    rw [List.foldl_cons, mem_growP ns (pre ++ [n]) (growP q n) fun y => ?_]
    · rw [List.append_assoc]; rfl
    · unfold growP
      rw [List.mem_append, h y, List.mem_map]
      constructor
      · rintro (z | ⟨z, hz, rfl⟩)
        · exact z.trans (List.sublist_append_left _ _)
        · exact List.Sublist.append ((h z).mp hz) (List.Sublist.refl _)
      · intro z
        obtain ⟨a, b, rfl, h1, h2⟩ := List.sublist_append_iff.mp z
        rcases List.sublist_cons_iff.mp h2 with h3 | ⟨r, rfl, h3⟩
        · obtain rfl := List.eq_nil_of_sublist_nil h3
          exact .inl (by simpa using h1)
        · obtain rfl := List.eq_nil_of_sublist_nil h3
          exact .inr ⟨a, (h a).mpr h1, rfl⟩
theorem mem_LL {ns x : List Str} : x ∈ LL ns ↔ x.Sublist ns := by
  have := mem_growP ns [] [[]] (fun x => by simp) x
  rwa [List.nil_append] at this
theorem nodup_growP : ∀ (ns : List Str) (q : List (List Str)), ns.Nodup → q.Nodup → (∀ x ∈ q, ∀ n ∈ ns, n ∉ x) → (ns.foldl growP q).Nodup
  | [], q, _, h, _ => h
  | n :: ns, q, nd, h, f => by
    obtain ⟨n1, n2⟩ := List.nodup_cons.mp nd
    refine nodup_growP ns (growP q n) n2 ?_ fun x hx m hm => ?_
    · unfold growP
      refine List.nodup_append.mpr ⟨h, List.pairwise_map.mpr (h.imp fun ne e => ne (List.append_cancel_right e)), fun a ha b hb e => ?_⟩
      obtain ⟨c, hc, rfl⟩ := List.mem_map.mp hb
      exact f a ha n (List.mem_cons_self ..) (by rw [e]; exact List.mem_append_right _ (List.mem_singleton.mpr rfl))
    · unfold growP at hx
      rcases List.mem_append.mp hx with hx | hx
      · exact f x hx m (List.mem_cons_of_mem _ hm)
      · obtain ⟨c, hc, rfl⟩ := List.mem_map.mp hx
        intro z
        rcases List.mem_append.mp z with z | z
        · exact f c hc m (List.mem_cons_of_mem _ hm) z
        · rw [List.mem_singleton.mp z] at hm
          exact n1 hm
theorem nodup_LL {ns : List Str} (nd : ns.Nodup) : (LL ns).Nodup := nodup_growP ns [[]] nd (by simp) (by simp)
theorem growP_len : ∀ (ns : List Str) (q : List (List Str)), (ns.foldl growP q).length = q.length * 2 ^ ns.length
  | [], q => by simp
  | n :: ns, q => by
    rw [List.foldl_cons, growP_len ns]
    unfold growP
    simp only [List.length_append, List.length_map, List.length_cons]
    rw [Nat.pow_succ, Nat.mul_comm (2 ^ ns.length) 2, ← Nat.mul_assoc]
    congr 1
    omega
theorem LL_len {ns : List Str} (h : ns.length ≤ 4) : (LL ns).length ≤ 16 := by
  have := growP_len ns [[]]
  have h2 : 2 ^ ns.length ≤ 2 ^ 4 := Nat.pow_le_pow_right (by decide) h
  unfold LL
  simp at this
  omega
theorem growP_head : ∀ (ns : List Str) (q : List (List Str)), (∃ r, q = [] :: r) → ∃ r, ns.foldl growP q = [] :: r
  | [], _, h => h
  | n :: ns, q, ⟨r, e⟩ => growP_head ns _ ⟨r ++ q.map (· ++ [n]), by unfold growP; rw [e]; rfl⟩
/-- lots_among: sorted(lots)[1:] -/
def LA (ns : List Str) : List (List Str) := ((LL (lotS ns)).mergeSort lle).drop 1
theorem LA_prog (ns : List Str) : (LL (lotS ns)).mergeSort lle = [] :: LA ns := by
  obtain ⟨r, e⟩ := growP_head (lotS ns) [[]] ⟨[], rfl⟩
  have e : LL (lotS ns) = [] :: r := e
  have s : ([] :: r.mergeSort lle : List (List Str)) = (LL (lotS ns)).mergeSort lle := by
    refine sort_uniq lD_inj ?_ (List.pairwise_cons.mpr ⟨fun a _ => lle_nil a, List.pairwise_mergeSort le_trans le_total _⟩)
    rw [e]
    exact List.Perm.cons _ (List.mergeSort_perm _ _)
  unfold LA
  rw [← s]; rfl
/-- ordered_lots -/
def OL (ns : List Str) : List (List Str) := (LL (lotS ns)).mergeSort kle
theorem OL_prog (ns : List Str) : ([] :: LA ns).mergeSort kle = OL ns := by
  rw [← LA_prog]
  exact sort_perm kD_inj (List.mergeSort_perm _ _)
theorem mem_OL {ns x : List Str} : x ∈ OL ns ↔ x.Sublist (lotS ns) := (List.mergeSort_perm _ _).mem_iff.trans mem_LL
theorem nodup_OL (ns : List Str) : (OL ns).Nodup := (List.mergeSort_perm _ _).nodup_iff.mpr (nodup_LL (asc_nodupS (asc_lotS ns)))
theorem OL_congr {ns ms : List Str} (h : ∀ x, x ∈ ns ↔ x ∈ ms) : OL ns = OL ms := by unfold OL; rw [lotS_congr h]
theorem OL_asc (ns : List Str) : (OL ns).Pairwise (fun a b => kle a b = true) := List.pairwise_mergeSort le_trans le_total _
/-! ### part of -/
def prt (xs ys : List Str) : Bool := xs.all fun x => decide (x ∈ ys)
theorem prt_iff {xs ys : List Str} : prt xs ys = true ↔ ∀ x ∈ xs, x ∈ ys := by
  unfold prt
  rw [List.all_eq_true]
  exact ⟨fun h x m => of_decide_eq_true (h x m), fun h x m => decide_eq_true (h x m)⟩
theorem nodup_len {α : Type} [DecidableEq α] : ∀ {l m : List α}, l.Nodup → (∀ x ∈ l, x ∈ m) → l.length ≤ m.length
  | [], _, _, _ => Nat.zero_le _
  | x :: l, m, nd, h => by
    obtain ⟨n1, n2⟩ := List.nodup_cons.mp nd
    have ih := nodup_len (l := l) (m := m.erase x) n2 fun y hy => (List.mem_erase_of_ne (show y ≠ x from fun z => n1 (by rw [← z]; exact hy))).mpr (h y (List.mem_cons_of_mem _ hy))
    have e := List.length_erase_of_mem (h x (List.mem_cons_self ..))
    have p := List.length_pos_of_mem (h x (List.mem_cons_self ..))
    rw [List.length_cons]; omega
theorem asc_part {x y : List Str} (ax : x.Pairwise sLt) (ay : y.Pairwise sLt) (h : prt x y = true) (l : y.length ≤ x.length) : x = y := by
  have nx := asc_nodupS ax
  refine (lotS_eq ax fun z => ⟨prt_iff.mp h z, fun hz => ?_⟩).trans (lotS_eq ay fun _ => Iff.rfl).symm
  refine Decidable.byContradiction fun nz => ?_
  have := nodup_len (l := z :: x) (m := y) (List.nodup_cons.mpr ⟨nz, nx⟩) fun w hw => by
    rcases List.mem_cons.mp hw with rfl | hw
    · exact hz
    · exact prt_iff.mp h w hw
  rw [List.length_cons] at this
  omega
theorem prt_trans {x y z : List Str} (h : prt x y = true) (k : prt y z = true) : prt x z = true := prt_iff.mpr fun a m => prt_iff.mp k a (prt_iff.mp h a m)
/-! ### what is kept of a row, one after another -/
section
variable {α : Type} (R : α → α → Bool) (p : α → Bool)
def keepF (L : List α) : List α := L.foldl (fun ks x => if !(ks.any fun y => R y x) && p x then ks ++ [x] else ks) []
variable [DecidableEq α]
def minB (L : List α) (x : α) : Bool := p x && L.all fun y => !(p y && (R y x && !decide (y = x)))
variable {R p}
theorem keepF_snoc (L : List α) (x : α) : keepF R p (L ++ [x]) = if !((keepF R p L).any fun y => R y x) && p x then keepF R p L ++ [x] else keepF R p L := by
  unfold keepF; rw [List.foldl_append]; rfl
theorem keepF_mem : ∀ {L : List α} {x : α}, x ∈ keepF R p L → x ∈ L ∧ p x = true := fun {L} => by
  have : ∀ (r : List α) (x : α), x ∈ keepF R p r.reverse → x ∈ r.reverse ∧ p x = true := fun r => by
    induction r with
    | nil => intro x h; cases h
    | cons a r ih =>
      intro x h
      rw [List.reverse_cons, keepF_snoc] at h
      split at h
      · rename_i c
        rcases List.mem_append.mp h with h | h
        · exact ⟨by rw [List.reverse_cons]; exact List.mem_append_left _ (ih x h).1, (ih x h).2⟩
        · rw [List.mem_singleton.mp h]
          rw [Bool.and_eq_true] at c
          exact ⟨by rw [List.reverse_cons]; exact List.mem_append_right _ (List.mem_singleton.mpr rfl), c.2⟩
      · exact ⟨by rw [List.reverse_cons]; exact List.mem_append_left _ (ih x h).1, (ih x h).2⟩
  intro x h
  have := this L.reverse x (by rwa [List.reverse_reverse])
  rwa [List.reverse_reverse] at this
/-- each wanted one has a kept one below it -/
theorem keepF_below (tr : ∀ x y z, R x y = true → R y z = true → R x z = true) : ∀ (r : List α) (x : α), x ∈ r.reverse → p x = true → ∃ y ∈ keepF R p r.reverse, y = x ∨ R y x = true
  | [], x, h, _ => by cases h
  | a :: r, x, h, hp => by
    rw [List.reverse_cons] at h ⊢
    rw [keepF_snoc]
    rcases List.mem_append.mp h with h | h
    · obtain ⟨y, m, c⟩ := keepF_below tr r x h hp
      refine ⟨y, ?_, c⟩
      split
      · exact List.mem_append_left _ m
      · exact m
    · obtain rfl := List.mem_singleton.mp h
      cases c : (keepF R p r.reverse).any fun y => R y x with
      | true =>
        obtain ⟨y, m, e⟩ := List.any_eq_true.mp c
        rw [if_neg (by simp)]
        exact ⟨y, m, .inr e⟩
      | false =>
        rw [if_pos (by rw [hp]; rfl)]
        exact ⟨x, List.mem_append_right _ (List.mem_singleton.mpr rfl), .inl rfl⟩
theorem keepF_rev (tr : ∀ x y z, R x y = true → R y z = true → R x z = true) : ∀ (r : List α), r.Nodup → r.reverse.Pairwise (fun a b => R b a = false) → keepF R p r.reverse = r.reverse.filter (minB R p r.reverse)
  | [], _, _ => rfl
  | a :: r, nd, pw => by
    rw [List.reverse_cons] at pw ⊢
    obtain ⟨n1, n2⟩ := List.nodup_cons.mp nd
    obtain ⟨p1, _, p3⟩ := List.pairwise_append.mp pw
    have ih := keepF_rev tr r n2 p1
    rw [keepF_snoc, List.filter_append]
    have e1 : r.reverse.filter (minB R p (r.reverse ++ [a])) = r.reverse.filter (minB R p r.reverse) := List.filter_congr fun x hx => by
      unfold minB
      rw [List.all_append]
      have : ([a].all fun y => !(p y && (R y x && !decide (y = x)))) = true := by
        rw [List.all_cons, p3 x hx a (List.mem_singleton.mpr rfl)]
        simp
      rw [this, Bool.and_true]
    rw [e1, ← ih]
    have e2 : minB R p (r.reverse ++ [a]) a = (!((keepF R p r.reverse).any fun y => R y a) && p a) := by
      unfold minB
      rw [List.all_append]
      have : ([a].all fun y => !(p y && (R y a && !decide (y = a)))) = true := by simp
      rw [this, Bool.and_true, Bool.and_comm]
      cases hp : p a with
      | false => rw [Bool.and_false, Bool.and_false]
      | true =>
        rw [Bool.and_true, Bool.and_true, Bool.eq_iff_iff, List.all_eq_true, Bool.not_eq_true', List.any_eq_false]
        constructor
        · intro h y m z
          obtain ⟨m1, m2⟩ := keepF_mem m
          have := h y m1
          rw [m2, z] at this
          simp at this
          rw [this] at m1
          exact n1 (List.mem_reverse.mp m1)
        · intro h y m
          cases hy : p y with
          | false => rfl
          | true =>
            cases hr : R y a with
            | false => rfl
            | true =>
              obtain ⟨z, mz, c⟩ := keepF_below (p := p) tr r y m hy
              exfalso
              rcases c with rfl | c
              · exact h z mz hr
              · exact h z mz (tr z y a c hr)
    rw [← e2]
    cases c : minB R p (r.reverse ++ [a]) a with
    | true => rw [if_pos rfl, List.filter_cons_of_pos c]; rfl
    | false => rw [if_neg (by simp), List.filter_cons_of_neg (by rw [c]; simp)]; simp
theorem keepF_eq (tr : ∀ x y z, R x y = true → R y z = true → R x z = true) {L : List α} (nd : L.Nodup) (pw : L.Pairwise fun a b => R b a = false) : keepF R p L = L.filter (minB R p L) := by
  have := keepF_rev (p := p) tr L.reverse ((List.reverse_perm L).nodup_iff.mpr nd) (by rwa [List.reverse_reverse])
  rwa [List.reverse_reverse] at this
theorem minB_perm {L M : List α} (h : L.Perm M) (x : α) : minB R p L x = minB R p M x := by
  unfold minB
  congr 1
  rw [Bool.eq_iff_iff, List.all_eq_true, List.all_eq_true]
  exact ⟨fun q y m => q y (h.mem_iff.mpr m), fun q y m => q y (h.mem_iff.mp m)⟩
end
/-- the law's: those of the wanted in which no other wanted one lies -/
def minsF {α : Type} [DecidableEq α] (R : α → α → Bool) (ls : List α) : List α := ls.filter fun x => !(ls.any fun y => !decide (y = x) && R y x)
theorem mins_filter {α : Type} [DecidableEq α] {R : α → α → Bool} {p : α → Bool} (L : List α) : minsF R (L.filter p) = L.filter (minB R p L) := by
  unfold minsF
  rw [List.filter_filter]
  refine List.filter_congr fun x _ => ?_
  unfold minB
  rw [Bool.and_comm]
  congr 1
  rw [Bool.eq_iff_iff, Bool.not_eq_true', List.any_eq_false, List.all_eq_true]
  constructor
  · intro h y m
    cases hy : p y with
    | false => rfl
    | true =>
      have := h y (List.mem_filter.mpr ⟨m, hy⟩)
      cases hr : R y x with
      | false => rfl
      | true =>
        rw [hr] at this
        simp at this
        simp [this]
  · intro h y m
    obtain ⟨m1, m2⟩ := List.mem_filter.mp m
    have := h y m1
    rw [m2] at this
    cases hr : R y x with
    | false => simp
    | true =>
      rw [hr] at this
      simp at this
      simp [this]
/-- least_ones over the ordered lots, and the law's least -/
theorem least_eq {ns : List Str} {p : List Str → Bool} : keepF prt p (OL ns) = (minsF prt ((LL (lotS ns)).filter p)).mergeSort kle := by
  have asc : ∀ x ∈ OL ns, x.Pairwise sLt := fun x m => (asc_lotS ns).sublist (mem_OL.mp m)
  have pw : (OL ns).Pairwise fun a b => prt b a = false := by
    have h := (OL_asc ns).and (nodup_OL ns)
    refine h.imp_of_mem fun {a b} ma mb ⟨h1, h2⟩ => ?_
    rw [Bool.eq_false_iff]
    intro z
    exact h2 (asc_part (asc b mb) (asc a ma) z (kle_len h1)).symm
  rw [keepF_eq (R := prt) (fun x y z h k => prt_trans h k) (nodup_OL ns) pw, mins_filter]
  refine sort_uniq kD_inj ?_ ((OL_asc ns).filter _)
  rw [show (LL (lotS ns)).filter (minB prt p (LL (lotS ns))) = (LL (lotS ns)).filter (minB prt p (OL ns)) from List.filter_congr fun x _ => minB_perm (List.mergeSort_perm _ _).symm x]
  exact (List.mergeSort_perm _ _).filter _
def trp (x y : List Str) : Bool := prt y x
theorem great_keep {ns : List Str} {p : List Str → Bool} : keepF trp p (OL ns).reverse = (OL ns).reverse.filter (minB trp p (OL ns).reverse) := by
  have asc : ∀ x ∈ OL ns, x.Pairwise sLt := fun x m => (asc_lotS ns).sublist (mem_OL.mp m)
  have pw : (OL ns).reverse.Pairwise fun a b => trp b a = false := by
    rw [List.pairwise_reverse]
    have h := (OL_asc ns).and (nodup_OL ns)
    refine h.imp_of_mem fun {a b} ma mb ⟨h1, h2⟩ => ?_
    show prt b a = false
    rw [Bool.eq_false_iff]
    intro z
    exact h2 (asc_part (asc b mb) (asc a ma) z (kle_len h1)).symm
  exact keepF_eq (R := trp) (fun x y z a b => prt_trans (x := z) (y := y) (z := x) b a) ((List.reverse_perm _).nodup_iff.mpr (nodup_OL ns)) pw
/-- greatest_ones over the ordered lots, and the law's greatest -/
theorem greatest_eq {ns : List Str} {p : List Str → Bool} : (keepF trp p (OL ns).reverse).mergeSort lle = (minsF trp ((LL (lotS ns)).filter p)).mergeSort lle := by
  have asc : ∀ x ∈ OL ns, x.Pairwise sLt := fun x m => (asc_lotS ns).sublist (mem_OL.mp m)
  have pw : (OL ns).reverse.Pairwise fun a b => trp b a = false := by
    rw [List.pairwise_reverse]
    have h := (OL_asc ns).and (nodup_OL ns)
    refine h.imp_of_mem fun {a b} ma mb ⟨h1, h2⟩ => ?_
    show prt b a = false
    rw [Bool.eq_false_iff]
    intro z
    exact h2 (asc_part (asc b mb) (asc a ma) z (kle_len h1)).symm
  rw [keepF_eq (R := trp) (fun x y z a b => prt_trans (x := z) (y := y) (z := x) b a) ((List.reverse_perm _).nodup_iff.mpr (nodup_OL ns)) pw, mins_filter]
  refine sort_perm lD_inj ?_
  have pm : (OL ns).reverse.Perm (LL (lotS ns)) := (List.reverse_perm _).trans (List.mergeSort_perm _ _)
  rw [show (LL (lotS ns)).filter (minB trp p (LL (lotS ns))) = (LL (lotS ns)).filter (minB trp p (OL ns).reverse) from List.filter_congr fun x _ => minB_perm pm.symm x]
  exact pm.filter _
end Lo

/-! tales thinned to names: parted, surely parted; two names are enough -/
namespace Lo
open PySem PySem.Spec PyProof.Rows L2 St PySem.W
abbrev Lot := List Str
abbrev Tale := List Lot
def thinL (ns l : Lot) : Lot := l.filter fun x => decide (x ∈ ns)
def thinT (ns : Lot) (t : Tale) : Tale := (t.map (thinL ns)).filter fun l => !decide (l = [])
def begB (t o : Tale) : Bool := decide (t.take o.length = o)
def partB (one other : Tale) (ns : Lot) (surely : Bool) : Bool := if surely = true then !begB (thinT ns one) (thinT ns other) && !begB (thinT ns other) (thinT ns one) else !decide (thinT ns one = thinT ns other)
def manyN (h t : Tale) (surely : Bool) : Nat := if surely = true then min h.length t.length else h.length + t.length
def apartB (one other : Tale) (ns : Lot) (surely : Bool) : Bool := !decide ((thinT ns one).take (manyN (thinT ns one) (thinT ns other) surely) = (thinT ns other).take (manyN (thinT ns one) (thinT ns other) surely))
theorem apart_eq (one other : Tale) (ns : Lot) (s : Bool) : apartB one other ns s = partB one other ns s := by
  unfold apartB partB manyN
  generalize thinT ns one = h
  generalize thinT ns other = t
  cases s with
  | false =>
    rw [if_neg (by decide), if_neg (by decide), List.take_of_length_le (by omega), List.take_of_length_le (by omega)]
  | true =>
    rw [if_pos rfl, if_pos rfl, ← Bool.not_or]
    congr 1
    rw [Bool.eq_iff_iff, Bool.or_eq_true]
    unfold begB
    rw [decide_eq_true_iff, decide_eq_true_iff, decide_eq_true_iff]
    rcases Nat.le_total h.length t.length with l | l
    · rw [Nat.min_eq_left l, List.take_of_length_le (Nat.le_refl h.length)]
      constructor
      · intro e; exact .inr e.symm
      · rintro (e | e)
        · rw [List.take_of_length_le l] at e
          rw [e, List.take_of_length_le (Nat.le_refl _)]
        · exact e.symm
    · rw [Nat.min_eq_right l, List.take_of_length_le (Nat.le_refl t.length)]
      constructor
      · intro e; exact .inl e
      · rintro (e | e)
        · exact e
        · rw [List.take_of_length_le l] at e
          rw [← e, List.take_of_length_le (Nat.le_refl _)]
theorem part_symm (one other : Tale) (ns : Lot) (s : Bool) : partB other one ns s = partB one other ns s := by
  unfold partB
  cases s with
  | false =>
    rw [if_neg (by decide), if_neg (by decide)]
    congr 1
    exact decide_eq_decide.mpr eq_comm
  | true => rw [if_pos rfl, if_pos rfl, Bool.and_comm]
theorem thinL_sub (ns l : Lot) : (thinL ns l).Sublist l := List.filter_sublist
theorem thinT_app (ns : Lot) (a b : Tale) : thinT ns (a ++ b) = thinT ns a ++ thinT ns b := by
  unfold thinT; rw [List.map_append, List.filter_append]
theorem thinT_cons (ns : Lot) (l : Lot) (r : Tale) (h : thinL ns l ≠ []) : thinT ns (l :: r) = thinL ns l :: thinT ns r := by
  unfold thinT
  rw [List.map_cons, List.filter_cons_of_pos (by simp [h])]
theorem thinL_thin {ns ms l : Lot} (h : ∀ x ∈ ms, x ∈ ns) : thinL ms (thinL ns l) = thinL ms l := by
  unfold thinL
  rw [List.filter_filter]
  refine List.filter_congr fun x _ => ?_
  by_cases c : x ∈ ms
  · simp [c, h x c]
  · simp [c]
theorem thinT_thin {ns ms : Lot} (h : ∀ x ∈ ms, x ∈ ns) : ∀ t : Tale, thinT ms (thinT ns t) = thinT ms t
  | [] => rfl
  | l :: t => by
    have ih := thinT_thin h t
    by_cases c : thinL ns l = []
    · have e1 : thinT ns (l :: t) = thinT ns t := by
        unfold thinT
        rw [List.map_cons, List.filter_cons_of_neg (by simp [c])]
      have e2 : thinL ms l = [] := by rw [← thinL_thin h, c]; rfl
      have e3 : thinT ms (l :: t) = thinT ms t := by
        unfold thinT
        rw [List.map_cons, List.filter_cons_of_neg (by simp [e2])]
      rw [e1, ih, e3]
    · rw [thinT_cons ns l t c]
      have e : ∀ r : Tale, thinT ms (thinL ns l :: r) = thinT ms [l] ++ thinT ms r := fun r => by
        rw [show thinL ns l :: r = [thinL ns l] ++ r from rfl, thinT_app]
        congr 1
        unfold thinT
        rw [List.map_singleton, List.map_singleton, thinL_thin h]
      rw [e, ih, ← thinT_app]; rfl
/-- two unlike rows: the first place -/
theorem first_diff : ∀ (h t : Tale), h ≠ t → (∃ c A r B r', h = c ++ A :: r ∧ t = c ++ B :: r' ∧ A ≠ B) ∨ (∃ A r, h = t ++ A :: r) ∨ ∃ A r, t = h ++ A :: r
  | [], [], n => absurd rfl n
  | [], b :: t, _ => .inr (.inr ⟨b, t, rfl⟩)
  | a :: h, [], _ => .inr (.inl ⟨a, h, rfl⟩)
  | a :: h, b :: t, n => by
    by_cases c : a = b
    · subst c
      rcases first_diff h t (fun e => n (by rw [e])) with ⟨c, A, r, B, r', e1, e2, ne⟩ | ⟨A, r, e⟩ | ⟨A, r, e⟩
      · exact .inl ⟨a :: c, A, r, B, r', by rw [e1]; rfl, by rw [e2]; rfl, ne⟩
      · exact .inr (.inl ⟨A, r, by rw [e]; rfl⟩)
      · exact .inr (.inr ⟨A, r, by rw [e]; rfl⟩)
    · exact .inl ⟨[], a, h, b, t, rfl, rfl, c⟩
theorem beg_no {c r r' : Tale} {A B : Lot} (ne : A ≠ B) : begB (c ++ A :: r) (c ++ B :: r') = false := by
  unfold begB
  refine decide_eq_false fun e => ne ?_
  have e1 := congrArg (fun l : Tale => l[c.length]?) e
  have e1 : ((c ++ A :: r).take (c ++ B :: r').length)[c.length]? = (c ++ B :: r')[c.length]? := e1
  rw [List.getElem?_take_of_lt (by rw [List.length_append, List.length_cons]; omega), List.getElem?_append_right (Nat.le_refl _), List.getElem?_append_right (Nat.le_refl _), Nat.sub_self] at e1
  exact Option.some.inj e1
theorem part_of {one other : Tale} {ns : Lot} {c r r' : Tale} {A B : Lot} (h : thinT ns one = c ++ A :: r) (t : thinT ns other = c ++ B :: r') (ne : A ≠ B) (s : Bool) : partB one other ns s = true := by
  unfold partB
  rw [h, t]
  cases s with
  | true => rw [if_pos rfl, beg_no ne, beg_no (Ne.symm ne)]; rfl
  | false =>
    rw [if_neg (by decide), Bool.not_eq_true', decide_eq_false_iff_not]
    intro e
    have := beg_no (c := c) (r := r) (r' := r') ne
    unfold begB at this
    rw [decide_eq_false_iff_not] at this
    exact this (by rw [e, List.take_of_length_le (Nat.le_refl _)])
theorem thin_in {ns l : Lot} {x : Str} : x ∈ thinL ns l ↔ x ∈ l ∧ x ∈ ns := by unfold thinL; rw [List.mem_filter, decide_eq_true_iff]
theorem thin_ne {t : Tale} {ns A : Lot} (m : A ∈ thinT ns t) : A ≠ [] ∧ ∃ l ∈ t, A = thinL ns l := by
  obtain ⟨m1, m2⟩ := List.mem_filter.mp m
  obtain ⟨l, hl, e⟩ := List.mem_map.mp m1
  exact ⟨by simpa using m2, l, hl, e.symm⟩
/-- two names are enough -/
theorem two_names {one other : Tale} {x : Lot} {s : Bool} (ok : ∀ l ∈ one ++ other, l.Pairwise sLt) (ax : x.Nodup) (hp : partB one other x s = true) : ∃ y : Lot, y.Sublist x ∧ y.length ≤ 2 ∧ partB one other y s = true := by
  have ascT : ∀ A ∈ thinT x one ++ thinT x other, A ≠ [] ∧ A.Pairwise sLt ∧ ∀ z ∈ A, z ∈ x := fun A m => by
    rcases List.mem_append.mp m with m | m
    · obtain ⟨n, l, hl, rfl⟩ := thin_ne m
      exact ⟨n, (ok l (List.mem_append_left _ hl)).sublist (thinL_sub x l), fun z hz => (thin_in.mp hz).2⟩
    · obtain ⟨n, l, hl, rfl⟩ := thin_ne m
      exact ⟨n, (ok l (List.mem_append_right _ hl)).sublist (thinL_sub x l), fun z hz => (thin_in.mp hz).2⟩
  have len2 : ∀ a b : Str, (x.filter fun z => decide (z ∈ [a, b])).length ≤ 2 := fun a b =>
    nodup_len (l := x.filter fun z => decide (z ∈ [a, b])) (m := [a, b]) (ax.sublist List.filter_sublist) fun z hz => of_decide_eq_true (List.mem_filter.mp hz).2
  have main : ∀ (one other : Tale) (c r r' : Tale) (A B : Lot) (a : Str), (∀ A ∈ thinT x one ++ thinT x other, A ≠ [] ∧ A.Pairwise sLt ∧ ∀ z ∈ A, z ∈ x) → thinT x one = c ++ A :: r → thinT x other = c ++ B :: r' → a ∈ A → a ∉ B → ∃ y : Lot, y.Sublist x ∧ y.length ≤ 2 ∧ ∀ s, partB one other y s = true := fun one other c r r' A B a ok e1 e2 ha hb => by
    obtain ⟨_, _, pA⟩ := ok A (List.mem_append_left _ (by rw [e1]; simp))
    obtain ⟨nB, _, pB⟩ := ok B (List.mem_append_right _ (by rw [e2]; simp))
    obtain ⟨b, hbB⟩ : ∃ b, b ∈ B := by cases B with | nil => exact absurd rfl nB | cons b _ => exact ⟨b, .head _⟩
    let y := x.filter fun z => decide (z ∈ [a, b])
    have my : ∀ z, z ∈ y ↔ z ∈ x ∧ z ∈ [a, b] := fun z => by
      show z ∈ x.filter _ ↔ _
      rw [List.mem_filter, decide_eq_true_iff]
    have sub : ∀ z ∈ y, z ∈ x := fun z hz => ((my z).mp hz).1
    have ay : a ∈ y := (my a).mpr ⟨pA a ha, by simp⟩
    have by_ : b ∈ y := (my b).mpr ⟨pB b hbB, by simp⟩
    have nA : thinL y A ≠ [] := fun z => by
      have : a ∈ thinL y A := thin_in.mpr ⟨ha, ay⟩
      rw [z] at this; cases this
    have nB' : thinL y B ≠ [] := fun z => by
      have : b ∈ thinL y B := thin_in.mpr ⟨hbB, by_⟩
      rw [z] at this; cases this
    have ne : thinL y A ≠ thinL y B := fun z => by
      have : a ∈ thinL y A := thin_in.mpr ⟨ha, ay⟩
      rw [z] at this
      exact hb (thin_in.mp this).1
    refine ⟨y, List.filter_sublist, len2 a b, fun s => part_of (c := thinT y c) (r := thinT y r) (r' := thinT y r') ?_ ?_ ne s⟩
    · rw [← thinT_thin sub, e1, thinT_app, thinT_cons _ _ _ nA]
    · rw [← thinT_thin sub, e2, thinT_app, thinT_cons _ _ _ nB']
  have ne : thinT x one ≠ thinT x other := fun e => by
    unfold partB begB at hp
    rw [e, List.take_of_length_le (Nat.le_refl _)] at hp
    cases s <;> simp at hp
  rcases first_diff _ _ ne with ⟨c, A, r, B, r', e1, e2, nAB⟩ | h
  · obtain ⟨_, aA, _⟩ := ascT A (List.mem_append_left _ (by rw [e1]; simp))
    obtain ⟨_, aB, _⟩ := ascT B (List.mem_append_right _ (by rw [e2]; simp))
    by_cases hA : ∃ a ∈ A, a ∉ B
    · obtain ⟨a, h1, h2⟩ := hA
      obtain ⟨y, s1, s2, s3⟩ := main one other c r r' A B a ascT e1 e2 h1 h2
      exact ⟨y, s1, s2, s3 s⟩
    · have sAB : ∀ z ∈ A, z ∈ B := fun z hz => Decidable.byContradiction fun n => hA ⟨z, hz, n⟩
      have hB : ∃ b ∈ B, b ∉ A := by
        refine Classical.byContradiction fun n => nAB ?_
        have sBA : ∀ z ∈ B, z ∈ A := fun z hz => Decidable.byContradiction fun m => n ⟨z, hz, m⟩
        exact (lotS_eq aA fun z => ⟨sAB z, sBA z⟩).trans (lotS_eq aB fun _ => Iff.rfl).symm
      obtain ⟨b, h1, h2⟩ := hB
      obtain ⟨y, s1, s2, s3⟩ := main other one c r' r B A b (fun Z m => ascT Z (by simp only [List.mem_append] at m ⊢; exact m.symm)) e2 e1 h1 h2
      exact ⟨y, s1, s2, by rw [← part_symm]; exact s3 s⟩
  · cases s with
    | true =>
      exfalso
      unfold partB begB at hp
      rcases h with ⟨A, r, e⟩ | ⟨A, r, e⟩ <;> rw [e] at hp <;> simp at hp
    | false =>
      have fin : ∀ (one other : Tale) (A : Lot) (r : Tale), thinT x one = thinT x other ++ A :: r → A ≠ [] → (∀ z ∈ A, z ∈ x) → ∃ y : Lot, y.Sublist x ∧ y.length ≤ 2 ∧ partB one other y false = true := fun one other A r e nA pA => by
        obtain ⟨a, ha⟩ : ∃ a, a ∈ A := by cases A with | nil => exact absurd rfl nA | cons a _ => exact ⟨a, .head _⟩
        let y := x.filter fun z => decide (z ∈ [a, a])
        have my : ∀ z, z ∈ y ↔ z ∈ x ∧ z ∈ [a, a] := fun z => by
          show z ∈ x.filter _ ↔ _
          rw [List.mem_filter, decide_eq_true_iff]
        have sub : ∀ z ∈ y, z ∈ x := fun z hz => ((my z).mp hz).1
        have nA : thinL y A ≠ [] := fun z => by
          have : a ∈ thinL y A := thin_in.mpr ⟨ha, (my a).mpr ⟨pA a ha, by simp⟩⟩
          rw [z] at this; cases this
        refine ⟨y, List.filter_sublist, len2 a a, ?_⟩
        unfold partB
        rw [if_neg (by decide), Bool.not_eq_true', decide_eq_false_iff_not]
        intro q
        rw [← thinT_thin sub one, e, thinT_app, thinT_thin sub, thinT_cons _ _ _ nA] at q
        have := congrArg List.length q
        simp at this
      rcases h with ⟨A, r, e⟩ | ⟨A, r, e⟩
      · obtain ⟨n, _, p⟩ := ascT A (List.mem_append_left _ (by rw [e]; simp))
        exact fin one other A r e n p
      · obtain ⟨n, _, p⟩ := ascT A (List.mem_append_right _ (by rw [e]; simp))
        obtain ⟨y, s1, s2, s3⟩ := fin other one A r e n p
        exact ⟨y, s1, s2, by rw [← part_symm]; exact s3⟩
/-- none of the least has more than two names -/
theorem least_two {one other : Tale} {ns : Lot} {s : Bool} (ok : ∀ l ∈ one ++ other, l.Pairwise sLt) : ∀ x ∈ minsF prt ((LL (lotS ns)).filter fun l => partB one other l s), x.length ≤ 2 := fun x m => by
  unfold minsF at m
  obtain ⟨m1, m2⟩ := List.mem_filter.mp m
  obtain ⟨m3, m4⟩ := List.mem_filter.mp m1
  have sx := mem_LL.mp m3
  obtain ⟨y, s1, s2, s3⟩ := two_names ok ((asc_nodupS (asc_lotS ns)).sublist sx) m4
  rw [Bool.not_eq_true', List.any_eq_false] at m2
  have := m2 y (List.mem_filter.mpr ⟨mem_LL.mpr (s1.trans sx), s3⟩)
  have e : prt y x = true := prt_iff.mpr fun z hz => s1.subset hz
  rw [e] at this
  simp at this
  rw [← this]; exact s2
/-- the first lot heard unlike -/
def idxF (h t : Tale) : Option Nat := (List.range (h.length + t.length)).find? fun i => !decide ((h.drop i).take 1 = (t.drop i).take 1)
theorem idx_some {h t : Tale} (ne : h ≠ t) : ∃ i, idxF h t = some i := by
  rcases first_diff h t ne with ⟨c, A, r, B, r', e1, e2, n⟩ | ⟨A, r, e⟩ | ⟨A, r, e⟩
  · refine Option.isSome_iff_exists.mp (List.find?_isSome.mpr ⟨c.length, ?_, ?_⟩)
    · rw [List.mem_range, e1, List.length_append, List.length_cons]; omega
    · rw [e1, e2, List.drop_left, List.drop_left]
      simpa using n
  · refine Option.isSome_iff_exists.mp (List.find?_isSome.mpr ⟨t.length, ?_, ?_⟩)
    · rw [List.mem_range, e, List.length_append, List.length_cons]; omega
    · rw [e, List.drop_left, List.drop_length]; simp
  · refine Option.isSome_iff_exists.mp (List.find?_isSome.mpr ⟨h.length, ?_, ?_⟩)
    · rw [List.mem_range, e, List.length_append, List.length_cons]; omega
    · rw [e, List.drop_left, List.drop_length]; simp
theorem idx_none {h t : Tale} (e : h = t) : idxF h t = none := by
  unfold idxF
  rw [List.find?_eq_none, e]
  intro i _
  simp
end Lo

namespace K6
open PySem PySem.Spec PyProof.Rows L2 Hb St Sq Ow En Zp RZ Rd
def top (i : Nat) : Stmt := PySem.Challenge.pw_curvebells_k92_whole_namings_coarse_and.main.body.getD i (.Pass ⟨0, 0, 0, 0⟩)
/-! ### any values, by their data -/
def tyD : PyData → Value
  | .none => .type "NoneType"
  | .bool _ => .type "bool"
  | .int _ => .type "int"
  | .str _ => .type "str"
  | .list _ => .type "list"
  | .tuple _ => .type "tuple"
  | _ => .type "dict"
theorem ty_lst {K : PySem.W.Frag} {H : Hp} {a : Addr} {xs : List V} (h : SqL K H a xs) : TyX K H (.ref a) (.type "list") := by
  rcases h with (e | ⟨o, e⟩) | ⟨o, its, n, e, c, _⟩
  · exact .base (.lst e)
  · exact .base (.frz e)
  · exact .kList e c
theorem ty_tup {K : PySem.W.Frag} {H : Hp} {a : Addr} {xs : List V} (h : SqT K H a xs) : TyX K H (.ref a) (.type "tuple") := by
  rcases h with (e | ⟨o, e⟩) | ⟨o, its, n, e, c, _⟩
  · exact .base (.tup e)
  · exact .fTuple e
  · exact .kTuple e c
theorem ty_dp {K : PySem.W.Frag} {H : Hp} {v : V} {d : PyData} (h : Dp K H v d) : TyX K H v (tyD d) := by
  cases h with
  | non => exact .base .non
  | bl b => exact .base (.bl b)
  | int i => exact .base (.int i)
  | str x => exact .base (.str x)
  | lst h _ => exact ty_lst h
  | tup h _ => exact ty_tup h
def isStrD : PyData → Bool
  | .str _ => true
  | _ => false
def isTupD : PyData → Bool
  | .tuple _ => true
  | _ => false
theorem kit_str {K : PySem.W.Frag} {H : Hp} {v : V} {d : PyData} (h : Dp K H v d) : PySem.W.kitOne K (tyD d) (.type "str") = some (isStrD d) := by
  cases h with
  | non => exact kit_ty (a := "NoneType") (b := "str") (r := false) (by decide +kernel)
  | bl b => exact kit_ty (a := "bool") (b := "str") (r := false) (by decide +kernel)
  | int i => exact kit_ty (a := "int") (b := "str") (r := false) (by decide +kernel)
  | str x => exact kit_ty (a := "str") (b := "str") (r := true) (by decide +kernel)
  | lst _ _ => exact kit_ty (a := "list") (b := "str") (r := false) (by decide +kernel)
  | tup _ _ => exact kit_ty (a := "tuple") (b := "str") (r := false) (by decide +kernel)
theorem kit_tup {K : PySem.W.Frag} {H : Hp} {v : V} {d : PyData} (h : Dp K H v d) : PySem.W.kitOne K (tyD d) (.type "tuple") = some (isTupD d) := by
  cases h with
  | non => exact kit_ty (a := "NoneType") (b := "tuple") (r := false) (by decide +kernel)
  | bl b => exact kit_ty (a := "bool") (b := "tuple") (r := false) (by decide +kernel)
  | int i => exact kit_ty (a := "int") (b := "tuple") (r := false) (by decide +kernel)
  | str x => exact kit_ty (a := "str") (b := "tuple") (r := false) (by decide +kernel)
  | lst _ _ => exact kit_ty (a := "list") (b := "tuple") (r := false) (by decide +kernel)
  | tup _ _ => exact kit_ty (a := "tuple") (b := "tuple") (r := true) (by decide +kernel)
theorem dpa_all {K : PySem.W.Frag} {H : Hp} : ∀ {xs : List V} {ds : List PyData}, DpAll K H xs ds → All2 (Dp K H) xs ds
  | _, _, .nil => .nil
  | _, _, .cons h t => .cons h (dpa_all t)
mutual
theorem dp_same {K : PySem.W.Frag} {H H' : Hp} (s : Same H H') : ∀ {d : PyData} {v : V}, Dp K H v d → Dp K H' v d
  | _, _, .non => .non
  | _, _, .bl b => .bl b
  | _, _, .int i => .int i
  | _, _, .str x => .str x
  | _, _, .lst h a => .lst (lstSame s h) (dpa_same s a)
  | _, _, .tup h a => .tup (tupFix (Fix.of s) h) (dpa_same s a)
theorem dpa_same {K : PySem.W.Frag} {H H' : Hp} (s : Same H H') : ∀ {ds : List PyData} {xs : List V}, DpAll K H xs ds → DpAll K H' xs ds
  | _, _, .nil => .nil
  | _, _, .cons h t => .cons (dp_same s h) (dpa_same s t)
end
/-- whether a text is a name -/
def nmB (x : Str) : Bool := decide (x.length ≤ 8) && (Txt.isascii x && (Txt.isalpha x && Txt.islower x))
def nmD : PyData → Bool
  | .str x => nmB x
  | _ => false
/-- texts that are short -/
def ShortD : PyData → Prop
  | .str x => x.length ≤ 1000
  | _ => True
theorem inV_strs (x : Str) (ns : List Str) : inV (.str x) (ns.map V.str) = decide (x ∈ ns) := by
  unfold inV
  rw [List.any_map]
  induction ns with
  | nil => simp
  | cons y r ih =>
    rw [List.any_cons, ih]
    show (eqV (.str y) (.str x) || decide (x ∈ r)) = _
    have e : eqV (.str y) (.str x) = decide (x = y) := by
      show decide (_ = _) = _
      exact decide_eq_decide.mpr ⟨fun h => h.symm, fun h => h.symm⟩
    rw [e]
    simp [List.mem_cons]
theorem flat_strs (ns : List Str) : (ns.map V.str).all flatV = true := by rw [List.all_map]; exact List.all_eq_true.mpr fun _ _ => rfl
theorem in_strs {K : PySem.W.Frag} {H : Hp} {a : Addr} {ns : List Str} {x : Str} {Q : VK} (h : SqX K H a (ns.map V.str)) (q : Q (.bl (decide (x ∈ ns))) H) : rIn K false (.str x) (.ref a) H Q :=
  ⟨a, _, rfl, h, rfl, flat_strs ns, by rw [inV_strs]; exact q⟩
section
variable {P : Program} {w : World} {K : PySem.W.Frag} {mg : Str → Option Value} {base : Heap}
/-! ### is_name -/
abbrev s_is_name : Stmt := top 10
theorem sc_is_name : FnScope ["value"] ["value"] (defScope s_is_name) := ⟨rfl, rfl, rfl, by decide +kernel, rfl, by decide +kernel, by decide +kernel⟩
def spIsName (K : PySem.W.Frag) : Sp := fun vs H Q _ => ∃ (v : V) (d : PyData), vs = [v] ∧ Dp K H v d ∧ ShortD d ∧ Q (.bl (nmD d)) H
theorem ok_is_name {f : Addr} {fd : FuncData} (F : Fun K "is_name" "is_name" s_is_name f fd) {tk : Tok} (g_LETTERS : mg "LETTERS" = some (.int 8 tk)) (n_isinstance : mg "isinstance" = none) (n_len : mg "len" = none) (n_str : mg "str" = none) : FnOk P w K mg base CX0 1 f fd ["value"] (spIsName K) := by
  refine F.ok sc_is_name (fun vs H Q E h => ?_) (fun cdv A outer s H vs Q E hr h => ?_)
  · obtain ⟨_, _, rfl, _⟩ := h
    rfl
  · obtain ⟨v, d, rfl, hv, sh, q⟩ := h
    refine ⟨_, (Evl.pss_cut (ps_if (PW.pt (pw_or (pt_not (pt_val (pe_callB call_isi (by rfl) n_isinstance (by decide +kernel) (pa_cons (pv 0) (pa_cons (pe_bltn (v := .ty "str") (by rfl) n_str (by decide +kernel) rfl) pa_nil))))) (pw_or1 (pt_cmpR op_gt (pe_callB call_len_str (by rfl) n_len PySem.boot_len (pa_cons (pv 0) pa_nil)) (pe_glob (v := .int 8) rfl g_LETTERS ⟨_, rfl⟩) (nomark _))))) (pss_one (ps_ret pe_bl)) pss_nil)
    (pss_one (ps_ret (pe_and (pe_bm0 PySem.F.plainAttrs_str PySem.F.slot_str_isascii PySem.F.type_str_isascii mt_isascii (pv 0)) (pe_and (pe_bm0 PySem.F.plainAttrs_str PySem.F.slot_str_isalpha PySem.F.type_str_isalpha mt_isalpha (pv 0)) (pe_one (pe_bm0 PySem.F.plainAttrs_str PySem.F.slot_str_islower PySem.F.type_str_islower mt_islower (pv 0)))))))), ?_⟩
    have ty := ty_dp hv
    have kt := kit_str hv
    cases hv with
    | str x =>
      have sh : x.length ≤ 1000 := sh
      have q : Q (.bl (nmB x)) H := q
      refine ⟨fun σ H' => σ = [some (.str x)] ∧ H' = H ∧ x.length ≤ 8, ?_, ?_⟩
      · refine ⟨_, rfl, .str x, .ty "str", _, _, _, rfl, .ty "str", ty, kt, true, rfl, iteF ?_⟩
        refine ⟨_, rfl, _, rfl, by rw [sizeLine_eq]; omega, _, _, rfl, rfl, _, rfl, ?_⟩
        by_cases c : x.length ≤ 8
        · rw [decide_eq_false (by omega)]
          exact iteF ⟨rfl, rfl, c⟩
        · rw [decide_eq_true (by omega)]
          refine iteT ?_
          have : nmB x = false := by unfold nmB; rw [decide_eq_false c]; rfl
          rw [this] at q
          exact q
      rintro σ H' ⟨rfl, rfl, c⟩
      unfold nmB at q
      rw [decide_eq_true c, Bool.true_and] at q
      refine ⟨_, rfl, rfl, _, rfl, rfl, trivial, _, rfl, ?_⟩
      cases c1 : Txt.isascii x with
      | false => rw [c1] at q; exact iteF q
      | true =>
        rw [c1, Bool.true_and] at q
        refine iteT ⟨_, rfl, rfl, _, rfl, rfl, trivial, _, rfl, ?_⟩
        cases c2 : Txt.isalpha x with
        | false => rw [c2] at q; exact iteF q
        | true =>
          rw [c2, Bool.true_and] at q
          exact iteT ⟨_, rfl, rfl, _, rfl, rfl, trivial, q⟩
    | _ =>
      exact ⟨fun _ _ => False, ⟨_, rfl, _, .ty "str", _, _, _, rfl, .ty "str", ty, kt, _, rfl, iteT q⟩, fun _ _ h => h.elim⟩
/-! ### thin_lot -/
abbrev s_thin_lot : Stmt := top 14
theorem sc_thin_lot : FnScope ["lot", "names", "name"] ["lot", "names"] (defScope s_thin_lot) := ⟨rfl, rfl, rfl, by decide +kernel, rfl, by decide +kernel, by decide +kernel⟩
def spThin (K : PySem.W.Frag) : Sp := fun vs H Q _ => ∃ (a b : Addr) (xs ys : List Str), vs = [.ref a, .ref b] ∧ SqT K H a (xs.map V.str) ∧ SqX K H b (ys.map V.str) ∧ xs.length ≤ 1000 ∧ ∀ p H', Same H H' → H' p = some (.tup ((xs.filter fun x => decide (x ∈ ys)).map V.str)) → Q (.ref p) H'
theorem ok_thin_lot {f : Addr} {fd : FuncData} (F : Fun K "thin_lot" "thin_lot" s_thin_lot f fd) (n_tuple : mg "tuple" = none) : FnOk P w K mg base CX0 1 f fd ["lot", "names"] (spThin K) := by
  refine F.ok sc_thin_lot (fun vs H Q E h => ?_) (fun cdv A outer s H vs Q E hr h => ?_)
  · obtain ⟨_, _, _, _, rfl, _⟩ := h
    rfl
  · obtain ⟨a, b, xs, ys, rfl, ha, hb, l, q⟩ := h
    refine ⟨_, (pss_one (ps_ret (pe_callTy call_tuple_of (by rfl) n_tuple (by decide +kernel) (pa_cons (pe_lc (own := [("name", 2)]) (g := gName 2) rfl sc_thin_lot.nd (pi_seq (pv 0)) (blkOk_by (N := ["lot", "names", "name"]) (sc := defScope s_thin_lot) (by decide +kernel)) (fun _ _ _ _ _ => pg_name (i := 2) sc_thin_lot.nd rfl (Or.inl rfl)) (fun _ _ _ _ _ => pts_one (pt_cmpR (r := rIn K false) op_in_seq (pv 2) (pv 1) rfl)) (fun _ _ _ _ _ => pv 2)) pa_nil)))), ?_⟩
    refine ⟨_, rfl, a, _, rfl, .inr ha, fun J S W s0 D hD => ?_⟩
    refine lc_mf (ds := xs) W (fun x => decide (x ∈ ys)) (fun _ y d => y = .str d) s0 hD (by simp) (fun i x d H' ex ed s m => ?_) (fun H' zs s e al => ?_)
    · rw [at_map ex ed]
      refine ⟨rfl, _, rfl, _, rfl, in_strs (sqxSame s hb) ⟨_, rfl, ?_⟩⟩
      cases c : decide (d ∈ ys) with
      | true => exact iteT ⟨_, rfl, mf_yes m hD (fun _ _ _ _ _ h => h) ed (by omega) (Same.refl _) c rfl⟩
      | false => exact iteF (mf_no m (fun _ _ _ _ _ h => h) ed (Same.refl _) c)
    · have ez := al.map_eq (f := V.str) fun _ _ h => h
      rw [ez] at e
      exact ⟨D, _, rfl, .inl ⟨SqL.of e, fun l hl => q l _ (s.trans (same_new hl _)) upd_same⟩⟩
/-! ### is_part -/
/-- whether all of a lot is in another one -/
abbrev prt := @Lo.prt
theorem prt_len (xs ys : List Str) : (decide (V.int ((xs.filter fun x => decide (x ∈ ys)).length : Nat) = V.int (xs.length : Nat))) = prt xs ys := by
  unfold prt Lo.prt
  rw [Bool.eq_iff_iff, decide_eq_true_iff, List.all_eq_true]
  constructor
  · intro e
    rw [← List.length_filter_eq_length_iff]
    injection e with e
    exact Int.ofNat_inj.mp e
  · intro e
    rw [List.length_filter_eq_length_iff.mpr e]
end
end K6

namespace K6
open PySem PySem.Spec PyProof.Rows L2 Hb St Sq Ow En Zp RZ Rd
/-! ### lots and tales, of any data -/
def ascD : List PyData → Bool
  | .str x :: .str y :: r => decide (x.cps.toList < y.cps.toList) && ascD (.str y :: r)
  | _ => true
def lotD : PyData → Bool
  | .tuple ds => !ds.isEmpty && (ds.all nmD && ascD ds)
  | _ => false
def taleD : PyData → Bool
  | .tuple ds => ds.all lotD
  | _ => false
def ltD : PyData × PyData → Bool
  | (.str x, .str y) => decide (x.cps.toList < y.cps.toList)
  | _ => true
theorem nm_str {d : PyData} (h : nmD d = true) : ∃ x, d = .str x ∧ nmB x = true := by
  cases d with
  | str x => exact ⟨x, rfl, h⟩
  | _ => cases h
theorem asc_zip : ∀ (d : PyData) (ds : List PyData), (d :: ds).all nmD = true → (((d :: ds).zip ds).all ltD) = ascD (d :: ds)
  | d, [], h => by
    obtain ⟨x, rfl, _⟩ := nm_str (List.all_eq_true.mp h d List.mem_cons_self)
    rfl
  | d, e :: ds, h => by
    obtain ⟨x, rfl, _⟩ := nm_str (List.all_eq_true.mp h d List.mem_cons_self)
    have h' : (e :: ds).all nmD = true := by
      rw [List.all_cons, Bool.and_eq_true] at h
      exact h.2
    obtain ⟨y, rfl, _⟩ := nm_str (List.all_eq_true.mp h' e List.mem_cons_self)
    have ih := asc_zip (.str y) ds h'
    rw [List.zip_cons_cons, List.all_cons, ih]
    rfl
theorem bl_map {α : Type} {ys : List V} {ds : List α} {f : α → Bool} (h : All2 (fun (y : V) (d : α) => y = .bl (f d)) ys ds) : ys = (ds.map f).map V.bl := by
  rw [List.map_map]
  exact h.map_eq fun a b e => e
theorem at2 {α β : Type} {R : α → β → Prop} {as : List α} {bs : List β} (h : All2 R as bs) {i : Nat} {a : α} {b : β} (ha : as[i]? = some a) (hb : bs[i]? = some b) : R a b := by
  obtain ⟨b', hb', r⟩ := h.get ha
  rw [hb] at hb'
  rw [Option.some.inj hb']
  exact r
theorem all_map {α : Type} (f : α → Bool) (l : List α) : (l.map f).all id = l.all f := by
  rw [List.all_map]; rfl
section
variable {P : Program} {w : World} {K : PySem.W.Frag} {mg : Str → Option Value} {base : Heap}
/-! ### is_lot -/
abbrev s_is_lot : Stmt := top 16
theorem sc_is_lot : FnScope ["value", "one", "other", "name"] ["value"] (defScope s_is_lot) := ⟨rfl, rfl, rfl, by decide +kernel, rfl, by decide +kernel, by decide +kernel⟩
/-- data with short rows and texts -/
def Sm1 : PyData → Prop
  | .tuple ds => ds.length ≤ 1000 ∧ ∀ d ∈ ds, ShortD d
  | _ => True
def spIsLot (K : PySem.W.Frag) : Sp := fun vs H Q _ => ∃ (v : V) (d : PyData), vs = [v] ∧ Dp K H v d ∧ Sm1 d ∧ ∀ H', Same H H' → Q (.bl (lotD d)) H'
theorem ok_is_lot {f : Addr} {fd : FuncData} (F : Fun K "is_lot" "is_lot" s_is_lot f fd) (C_is_name : Cl P w K mg base "is_name" ["value"] [] 1 (spIsName K)) (n_all : mg "all" = none) (n_isinstance : mg "isinstance" = none) (n_len : mg "len" = none) (n_tuple : mg "tuple" = none) (n_zip : mg "zip" = none) : FnOk P w K mg base CX0 2 f fd ["value"] (spIsLot K) := by
  refine F.ok sc_is_lot (fun vs H Q E h => ?_) (fun cdv A outer s H vs Q E hr h => ?_)
  · obtain ⟨_, _, rfl, _⟩ := h
    rfl
  · obtain ⟨v, d, rfl, hv, sm, q⟩ := h
    refine ⟨_, (Evl.pss_cut (ps_if (PW.pt (pw_or (pt_not (pt_val (pe_callB call_isi (by rfl) n_isinstance (by decide +kernel) (pa_cons (pv 0) (pa_cons (pe_bltn (v := .ty "tuple") (by rfl) n_tuple (by decide +kernel) rfl) pa_nil))))) (pw_or (pt_cmpR op_eq (pe_callB call_len_seq (by rfl) n_len PySem.boot_len (pa_cons (pv 0) pa_nil)) pe_int (nomark _)) (pw_or1 (pt_not (pt_val (pe_callB (cr_all rfl) (by rfl) n_all (by decide +kernel) (pa_cons (pe_lc (own := [("name", 3)]) (g := gName 3) rfl sc_is_lot.nd (pi_seq (pv 0)) (blkOk_by (N := ["value", "one", "other", "name"]) (sc := defScope s_is_lot) (by decide +kernel)) (fun _ _ _ _ _ => pg_name (i := 3) sc_is_lot.nd rfl (Or.inl rfl)) (fun _ _ _ _ _ => pts_nil) (fun _ _ _ _ _ => pe_use C_is_name (hr.mono (by decide)) rfl (pa_cons (pv 3) pa_nil))) pa_nil)))))))) (pss_one (ps_ret pe_bl)) pss_nil)
    (pss_one (ps_ret (pe_callB (cr_all rfl) (by rfl) n_all (by decide +kernel) (pa_cons (pe_lc (own := [("one", 1), ("other", 2)]) (g := gTup K 2 (gCons (gName 1) (gCons (gName 2) gNil))) rfl sc_is_lot.nd (pi_zipA (by rfl) n_zip (pa_cons (pv 0) (pa_cons (pe_slice (r := rSlA K) sl_tupA (pv 0) (po_some pe_int) po_none) pa_nil))) (blkOk_by (N := ["value", "one", "other", "name"]) (sc := defScope s_is_lot) (by decide +kernel)) (fun _ _ _ _ _ => pg_tup rfl (pgs_cons (pg_name (i := 1) sc_is_lot.nd rfl (Or.inl rfl)) (pgs_cons (pg_name (i := 2) sc_is_lot.nd rfl (Or.inl rfl)) pgs_nil))) (fun _ _ _ _ _ => pts_nil) (fun _ _ _ _ _ => pe_cmpR op_lt_str (pv 1) (pv 2) (nomark _))) pa_nil))))), ?_⟩
    have ty := ty_dp hv
    have kt := kit_tup hv
    cases hv with
    | @tup a xs ds ht ha =>
      have al := dpa_all ha
      have sm : ds.length ≤ 1000 ∧ ∀ d ∈ ds, ShortD d := sm
      have hl := al.len
      have q : ∀ H', Same H H' → Q (.bl (!ds.isEmpty && (ds.all nmD && ascD ds))) H' := q
      refine ⟨fun σ H' => σ = [some (.ref a), none, none, none] ∧ Same H H' ∧ ds ≠ [] ∧ ds.all nmD = true, ?_, ?_⟩
      · refine ⟨_, rfl, _, .ty "tuple", _, _, _, rfl, .ty "tuple", ty, kt, true, rfl, iteF ?_⟩
        refine ⟨_, rfl, a, _, rfl, .inr ht, rfl, _, rfl, ?_⟩
        by_cases c : ds = []
        · subst c
          have ex : xs = [] := List.eq_nil_of_length_eq_zero (by rw [hl]; rfl)
          subst ex
          exact iteT (q _ (Same.refl _))
        · have nl : xs.length ≠ 0 := fun e => c (List.eq_nil_of_length_eq_zero (by rw [← hl]; exact e))
          rw [decide_eq_false (fun e => nl (by injection e with e; omega))]
          refine iteF ⟨_, rfl, a, _, rfl, .inr ht, fun J S W s0 D hD => ?_⟩
          refine lc_mf (ds := ds) W (fun _ => true) (fun _ y d => y = .bl (nmD d)) s0 hD hl (fun i x d H' ex ed s m => ?_) (fun H' ys s e al2 => ?_)
          · refine ⟨rfl, _, rfl, x, d, rfl, dp_same s (at2 al ex ed), sm.2 d (at_mem ed), ?_⟩
            exact mf_yes m hD (fun _ _ _ _ _ h => h) ed (by omega) (Same.refl _) rfl rfl
          · rw [Rd.filter_all] at al2
            have ey := bl_map al2
            refine ⟨D, _, rfl, SqL.of (by rw [← ey]; exact e), _, rfl, ?_⟩
            rw [all_map]
            cases c2 : ds.all nmD with
            | true => exact iteF ⟨rfl, s, c, rfl⟩
            | false =>
              have q := q H' s
              rw [c2, Bool.false_and, Bool.and_false] at q
              exact iteT q
      rintro σ H1 ⟨rfl, s1, ne, nm⟩
      cases al with
      | nil => exact absurd rfl ne
      | @cons x0 d0 xr dr r0 rr =>
      have h1 := tupFix (Fix.of s1) ht
      refine ⟨_, rfl, ?_⟩
      refine rd_slc rfl h1 fun p H2 hp s2 e2 => ?_
      have h2 := tupFix (Fix.of s2) h1
      refine ⟨a, p, _, _, rfl, .inr ⟨h2, SqT.of e2, fun D hD => ?_⟩⟩
      have aw : All2 (Dp K H) (x0 :: xr) (d0 :: dr) := .cons r0 rr
      refine lc_mp wp_tup (ds := (d0 :: dr).zip dr) (fun _ => true) (fun _ y p => y = .bl (ltD p)) ⟨h2, SqT.of e2⟩ hD (by rw [List.length_zip, List.length_zip, aw.len, rr.len]) (fun _ _ _ _ _ h => h) (fun i T pr d H3 ep ed s3 eT m => ?_) (fun H3 ys s3 e al2 => ?_)
      · obtain ⟨p1, p2⟩ := pr
        obtain ⟨d1, d2⟩ := d
        obtain ⟨ea, eb⟩ := List.getElem?_zip_eq_some.mp ep
        obtain ⟨ga, gb⟩ := List.getElem?_zip_eq_some.mp ed
        have w1 := at2 aw ea ga
        have w2 := at2 rr eb gb
        obtain ⟨x, rfl, _⟩ := nm_str (List.all_eq_true.mp nm d1 (at_mem ga))
        obtain ⟨y, rfl, _⟩ := nm_str (List.all_eq_true.mp nm d2 (List.mem_cons_of_mem _ (at_mem gb)))
        cases w1
        cases w2
        refine ⟨T, _, rfl, SqT.of eT, rfl, _, _, rfl, _, _, rfl, rfl, rfl, _, rfl, _, rfl, _, _, rfl, rfl, ?_⟩
        exact mf_yes m hD (fun _ _ _ _ _ h => h) ed (by rw [List.length_zip]; have := sm.1; rw [List.length_cons] at this; omega) (Same.refl _) rfl rfl
      · rw [Rd.filter_all] at al2
        have ey := bl_map al2
        refine ⟨D, _, rfl, SqL.of (by rw [← ey]; exact e), ?_⟩
        rw [all_map, asc_zip _ _ nm]
        have q := q H3 ((s1.trans s2).trans s3)
        rw [nm] at q
        exact q
    | _ =>
      exact ⟨fun _ _ => False, ⟨_, rfl, _, .ty "tuple", _, _, _, rfl, .ty "tuple", ty, kt, _, rfl, iteT (q _ (Same.refl _))⟩, fun _ _ h => h.elim⟩
/-! ### is_tale -/
abbrev s_is_tale : Stmt := top 18
theorem sc_is_tale : FnScope ["value", "lot"] ["value"] (defScope s_is_tale) := ⟨rfl, rfl, rfl, by decide +kernel, rfl, by decide +kernel, by decide +kernel⟩
def Sm2 : PyData → Prop
  | .tuple ds => ds.length ≤ 1000 ∧ ∀ d ∈ ds, Sm1 d
  | _ => True
def spIsTale (K : PySem.W.Frag) : Sp := fun vs H Q _ => ∃ (v : V) (d : PyData), vs = [v] ∧ Dp K H v d ∧ Sm2 d ∧ ∀ H', Same H H' → Q (.bl (taleD d)) H'
theorem ok_is_tale {f : Addr} {fd : FuncData} (F : Fun K "is_tale" "is_tale" s_is_tale f fd) (C_is_lot : Cl P w K mg base "is_lot" ["value"] [] 2 (spIsLot K)) (n_all : mg "all" = none) (n_isinstance : mg "isinstance" = none) (n_tuple : mg "tuple" = none) : FnOk P w K mg base CX0 3 f fd ["value"] (spIsTale K) := by
  refine F.ok sc_is_tale (fun vs H Q E h => ?_) (fun cdv A outer s H vs Q E hr h => ?_)
  · obtain ⟨_, _, rfl, _⟩ := h
    rfl
  · obtain ⟨v, d, rfl, hv, sm, q⟩ := h
    refine ⟨_, (pss_one (ps_ret (pe_and (pe_callB call_isi (by rfl) n_isinstance (by decide +kernel) (pa_cons (pv 0) (pa_cons (pe_bltn (v := .ty "tuple") (by rfl) n_tuple (by decide +kernel) rfl) pa_nil))) (pe_one (pe_callB (cr_all rfl) (by rfl) n_all (by decide +kernel) (pa_cons (pe_lc (own := [("lot", 1)]) (g := gName 1) rfl sc_is_tale.nd (pi_seq (pv 0)) (blkOk_by (N := ["value", "lot"]) (sc := defScope s_is_tale) (by decide +kernel)) (fun _ _ _ _ _ => pg_name (i := 1) sc_is_tale.nd rfl (Or.inl rfl)) (fun _ _ _ _ _ => pts_nil) (fun _ _ _ _ _ => pe_use C_is_lot (hr.mono (by decide)) rfl (pa_cons (pv 1) pa_nil))) pa_nil)))))), ?_⟩
    have ty := ty_dp hv
    have kt := kit_tup hv
    cases hv with
    | @tup a xs ds ht ha =>
      have al := dpa_all ha
      have sm : ds.length ≤ 1000 ∧ ∀ d ∈ ds, Sm1 d := sm
      have hl := al.len
      have q : ∀ H', Same H H' → Q (.bl (ds.all lotD)) H' := q
      refine ⟨_, rfl, _, .ty "tuple", _, _, _, rfl, .ty "tuple", ty, kt, true, rfl, iteT ?_⟩
      refine ⟨_, rfl, a, _, rfl, .inr ht, fun J S W s0 D hD => ?_⟩
      refine lc_mf (ds := ds) W (fun _ => true) (fun _ y d => y = .bl (lotD d)) s0 hD hl (fun i x d H' ex ed s m => ?_) (fun H' ys s e al2 => ?_)
      · refine ⟨rfl, _, rfl, x, d, rfl, dp_same s (at2 al ex ed), sm.2 d (at_mem ed), fun H2 s2 => ?_⟩
        exact mf_yes m hD (fun _ _ _ _ _ h => h) ed (by omega) s2 rfl rfl
      · rw [Rd.filter_all] at al2
        have ey := bl_map al2
        refine ⟨D, _, rfl, SqL.of (by rw [← ey]; exact e), ?_⟩
        rw [all_map]
        exact q H' s
    | _ =>
      exact ⟨_, rfl, _, .ty "tuple", _, _, _, rfl, .ty "tuple", ty, kt, _, rfl, iteF (q _ (Same.refl _))⟩
end
end K6

namespace K6
open PySem PySem.Spec PyProof.Rows L2 Hb St Sq Ow En Zp RZ Rd
/-! ### tales as rows of texts -/
def TupS (K : PySem.W.Frag) (H : Hp) (v : V) (l : List Str) : Prop := ∃ b, v = .ref b ∧ SqT K H b (l.map V.str)
def LT (K : PySem.W.Frag) (H : Hp) (a : Addr) (ls : List (List Str)) : Prop := ∃ its, H a = some (.tup its) ∧ All2 (TupS K H) its ls
theorem TupS.fix {K : PySem.W.Frag} {H H' : Hp} {v : V} {l : List Str} (h : TupS K H v l) (f : Fix H H') : TupS K H' v l := let ⟨b, e, t⟩ := h; ⟨b, e, tupFix f t⟩
theorem not_mut_tup (xs : List V) : ¬ Mut (.tup xs) := by
  rintro (⟨_, e⟩ | ⟨_, e⟩) <;> cases e
theorem LT.fix {K : PySem.W.Frag} {H H' : Hp} {a : Addr} {ls : List (List Str)} (h : LT K H a ls) (f : Fix H H') : LT K H' a ls :=
  let ⟨its, e, al⟩ := h; ⟨its, f _ _ e (not_mut_tup _), al.imp fun _ _ t => t.fix f⟩
def natV (i : Nat) : V := .int (i : Nat)
end K6

/-! errors of classes of the program's own, over Exception through other own classes, whose __init__ keeps one thing: self.at = at -/
namespace Xb
open PySem PySem.W PySem.Calls PyProof.Rows PySem.HandSPX
abbrev exB : List Value := [.type "Exception", .type "BaseException", .type "object"]
def iA (p1 p2 : Pos) : Arguments := { posonlyargs := [], args := [{ arg := "self", annotation := none, pos := p1 }, { arg := "at", annotation := none, pos := p2 }], vararg := none, kwonlyargs := [], kw_defaults := [], kwarg := none, defaults := [] }
def iB (q1 q2 q3 q4 : Pos) : List Stmt := [.Assign [.Attribute (.Name "self" q1) "at" q2] (.Name "at" q3) q4]
def iS : Scope := { kind := .function, names := [(PySem.Str.ofString "self", .local), (PySem.Str.ofString "at", .local)], isGenerator := false, isCoroutine := false, more := [] }
/-- what the written part says of the class cn, at C, and of its __init__, at fI -/
structure ErrC (K : Frag) (mg : Str → Option Value) (cn : Str) (C fI : Addr) : Prop where
  gC : mg cn = some (.ref C)
  cls : ∃ nm q N bs bm sn sub ab col dd k0 k1 k2 k3 k5, K.lookup C = some (excClassObj nm q C N bs bm true sn sub ab col dd k0 k1 k2 k3 k5 "Exception.__new__") ∧ excTail exB bm = true
  sa : findIn K (.ref C) "__setattr__" = some (some (.builtin "object.__setattr__"))
  ga : findIn K (.ref C) "__getattribute__" = some (some (.builtin "BaseException.__getattribute__"))
  gg : findIn K (.ref C) "__getattr__" = some none
  noN : findIn K (.ref C) "at" = some none
  iC : findIn K (.ref C) "__init__" = some (some (.ref fI))
  tC : typeIn K (.ref fI) = some (.type "function")
  kC : keepIn K (.ref C) = true
  exC : subIn K (.ref C) (.type "BaseException") = some true
  tyC : typeIn K (.ref C) = some (.type "type")
  hdC : hasDictIn K C = true
  te : exmOne K (.ref C) (.ref C) = some true
  fn : ∃ (oc : Value) (od : Option Addr) (qn : Str) (doc pm : Value) (an : Option Addr) (cdv ct : Value) (osl : Array (Option Value)) (p1 p2 q1 q2 q3 q4 : Pos),
    K.lookup fI = some ⟨oc, od, .func (fnOf "__init__" qn (iA p1 p2) (iB q1 q2 q3 q4) iS .none .none doc pm an cdv ct), osl⟩ ∧ codeIn K cdv qn = true
theorem one_size (v : Value) : [v].length ≤ sizeLine := by
  rw [sizeLine_eq]
  exact (by decide : 1 ≤ 16777216)
theorem at_local {M : Model} {s : Shared} {name : Str} {scope : Scope} {L a : Addr} {cd : Value} {m : Str → Option Value} {x : Str} {pos : Pos} {v : Value} {Q : Value → Shared → Prop} {A : Around} {E : Value → Shared → Prop} (hn : s.heap.Ns L m) (hv : m x = some v) (h : Q v s)
    (hk : scope.kind = .function := by rfl) (hl : (envOfC name scope L a cd).kindOf x = some .local := by rfl) (hd : (x == ("__debug__" : Str)) = false := by decide) :
    wpAny M A (eval (.Name x pos) (envOfC name scope L a cd)) Q E s := wpAny_Name (wpAny_loadName_local hk hl hn hv h) hd
/-- what __init__ leaves of a fresh exception at x -/
structure Ended (h h' : Heap) (x C dx t1 : Addr) (v : Value) : Prop where
  keep : ∀ b o, b ≠ x → h.get? b = some o → h'.get? b = some o
  obj : h'.get? x = some { cls := .ref C, dict := some dx, data := .fields #[.ref t1, .none, .none, .none, .bool false, .none] }
  dbig : h.objs.size ≤ dx
  dne : dx ≠ x
  ns : h'.Ns1 dx (fun y => if y = "at" then some v else none)
structure Made (h h' : Heap) (e C d : Addr) (v : Value) : Prop where
  keep : ∀ b o, h.get? b = some o → h'.get? b = some o
  new : h.objs.size ≤ e
  obj : ∃ oe vs, h'.get? e = some oe ∧ oe.cls = .ref C ∧ oe.dict = some d ∧ oe.data = .fields vs ∧ vs[1]? = some .none
  dbig : h.objs.size ≤ d
  dne : d ≠ e
  ns : h'.Ns1 d (fun y => if y = "at" then some v else none)
section
open Builtin Builtin.ObjectAttr
variable {prog : Program} {w : World} {A : Around} {E : Value → Shared → Prop} {R : Result → Shared → Prop} {K : Frag} {mg : Str → Option Value} {cn : Str} {C fI : Addr}
/-- the first store to such an exception: it gets its dict -/
theorem first_store {hp : Heap} {g : Array GenState} {d : Drawn} {t : Nat} {os : OsState} {name : Str} {tk : Tok} {v : Value} {x : Addr} {fv : Array Value} {cd : ClassData}
    (X : K.In hp) (hx : hp.get? x = some { cls := .ref C, data := .fields fv }) (hcd : clsIn K C = some cd) (ho : excOver K C exB = true) (hh : cd.hasDict = true) (ha : findIn K (.ref C) name = some none)
    (hq : ∀ h' tk' dx, (∀ b o, b ≠ x → hp.get? b = some o → h'.get? b = some o) → hp.objs.size ≤ dx → dx ≠ x → h'.get? x = some { cls := .ref C, dict := some dx, data := .fields fv } →
      h'.Ns1 dx (fun y => if y = name then some v else none) → R (.ok (.ret .none)) ⟨h', g, d, tk', os⟩) :
    codeAny (model prog w) A (.call (.builtin "object.__setattr__") ⟨[.ref x, .str name tk, v], []⟩) R ⟨hp, g, d, t, os⟩ := by
  have I : InstAt hp x { cls := .ref C, data := .fields fv } C none := ⟨hx, rfl, rfl, trivial⟩
  have nx : x ≠ hp.objs.size := Nat.ne_of_lt (Heap.lt_size hx)
  refine osa_openX (r := none) F.store_Exception X I ho (by unfold takerIn; rw [ha]; rfl) fun b => ?_
  show wpAny _ _ (storeInOwnDict (.ref x) (.ref C) (.str name tk) name v b) _ _ _
  have hC : Looks (model prog w) hp (classData C) cd := looks_clsIn X hcd
  obtain ⟨_, _, _, _, _, hd, _, _, _, _, _⟩ := cd
  dsimp only at hh
  subst hh
  unfold storeInOwnDict ownDictForStores
  repeat (first | with_reducible refine wpAny_loadPart_at hx ?_ | with_reducible refine hC.at ?_ | with_reducible refine HandSPX.store_in_new ?_ ?_ | wp_step)
  · exact ⟨_, #[], _, (Heap.get?_update_ne _ _ _ _ nx.symm).trans (Heap.get?_push_at rfl rfl), rfl, fun e he => absurd he (by simp), fun _ => rfl⟩
  · intro h' tk' hn' hs
    have old : (hp.push { cls := .type "dict", data := .dict #[] }).get? x = some { cls := .ref C, data := .fields fv } := Heap.get?_push_of_some _ hx
    refine hq h' tk' hp.objs.size (fun b o hb ho => ?_) (Nat.le_refl _) nx.symm ?_ hn'
    · exact (hs.2 b (Nat.ne_of_lt (Heap.lt_size ho))).trans ((Heap.get?_update_ne _ _ _ _ hb).trans (Heap.get?_push_of_some _ ho))
    · exact (hs.2 x nx).trans (Heap.get?_update_self _ old rfl)
theorem err_init (T : ErrC K mg cn C fI) {s : Shared} {x t0 : Addr} {v : Value} (X : K.In s.heap) (hlim : s.heap.NoLimit) (hx : s.heap.get? x = some (excO C t0)) (hroom : A.depth < recursionLimit)
    (hq : ∀ h' tk dx, Ended s.heap h' x C dx t0 v → R (.ok (.ret .none)) { s with heap := h', toks := tk }) :
    codeAny (model prog w) A (.call (.ref fI) ⟨[.ref x, v], []⟩) R s := by
  obtain ⟨oc, od, qn, doc, pm, an, cdv, ct, osl, p1, p2, q1, q2, q3, q4, ho, hcd⟩ := T.fn
  obtain ⟨nm, q, N, bs, bm, sn, sub, ab, col, dd, k0, k1, k2, k3, k5, hC, hbm⟩ := T.cls
  have hcl : clsIn K C = some { name := nm, bases := bs, mro := .ref C :: bm, ns := N, qualname := q, hasDict := true, slotNames := sn, subclasses := sub, abstract := ab, collection := col, hasDel := false } := by unfold clsIn; rw [hC] <;> rfl
  have over : excOver K C exB = true := by
    unfold excOver
    rw [hcl]
    show ((C == C) && excTail exB bm) = true
    rw [hbm, beq_self_eq_true]
    rfl
  refine Att.call_fn (binds := [("self", .ref x), ("at", v)]) X hlim ho hcd hroom (BindsTo.of_eq (by first | rfl | with_unfolding_all rfl)) (by first | rfl | decide | with_unfolding_all rfl) (fun s₁ IC => ?_) rfl rfl rfl
  obtain ⟨h₁, tk₁, rfl⟩ := IC.toInCall.same
  have k : ∀ b o, s.heap.get? b = some o → h₁.get? b = some o := IC.toInCall.keep
  have hn := IC.toInCall.ns
  have X₁ : K.In h₁ := X.keeps k
  have hx₁ := k _ _ hx
  show wpAny _ _ (execs _ _) _ _ _
  refine wpAny_execs_cons (plainObj_wpAny_Assign_Attribute ?_)
  refine at_local (v := v) hn (by first | rfl | with_unfolding_all rfl | kernel_rfl) (at_local (v := .ref x) hn (by first | rfl | with_unfolding_all rfl | kernel_rfl) ?_)
  refine set_plain X₁ (ox := excO C t0) (od := none) ⟨hx₁, rfl, rfl, trivial⟩ T.sa ?_
  refine first_store X₁ hx₁ hcl over rfl T.noN (fun h₃ tk₃ dx k₃ dn dne hx₃ hn₃ => ?_)
  show wpAny _ _ (execs _ _) _ _ _
  have z : s.heap.objs.size < h₁.objs.size := hn.lt
  exact wpAny_execs_nil (hq h₃ tk₃ dx ⟨fun b o hb e => k₃ b o hb (k b o e), hx₃, Nat.le_of_lt (Nat.lt_of_lt_of_le z dn), dne, hn₃⟩)
theorem err_made (T : ErrC K mg cn C fI) {s : Shared} {v : Value} (X : K.In s.heap) (hlim : s.heap.NoLimit) (hroom : A.depth + 1 < recursionLimit)
    (hq : ∀ h' tk e d, Made s.heap h' e C d v → R (.ok (.ret (.ref e))) { s with heap := h', toks := tk }) :
    codeAny (model prog w) A (.call (.ref C) ⟨[v], []⟩) R s := by
  obtain ⟨nm, q, N, bs, bm, sn, sub, ab, col, dd, k0, k1, k2, k3, k5, hC, hbm⟩ := T.cls
  obtain ⟨hp, g, dr, tk, os⟩ := s
  have k : ∀ b o, hp.get? b = some o → ((hp.push (kdv_tup [v])).push (excO C hp.objs.size)).get? b = some o := fun b o e => Heap.get?_push_of_some _ (Heap.get?_push_of_some _ e)
  have hget : ((hp.push (kdv_tup [v])).push (excO C hp.objs.size)).get? (hp.objs.size + 1) = some (excO C hp.objs.size) := by heap_get
  refine call_own F.excBase_Exception (fun X => excTail_contains X bm hbm) (X _ _ hC) (looks_findIn X T.iC) (fun self => bind_fn X self T.tC) (one_size v) ?_
  refine err_init (s := ⟨(hp.push (kdv_tup [v])).push (excO C hp.objs.size), g, dr, tk, os⟩) T (X.keeps k) (hlim.keeps k) hget ?_ fun h' tk' dx ⟨k', hx, dn, dne, hns⟩ => ?_
  · show A.depth + 1 < recursionLimit
    exact hroom
  · have old : ∀ b o, hp.get? b = some o → h'.get? b = some o := fun b o e => k' b o (Nat.ne_of_lt (Nat.lt_succ_of_lt (Heap.lt_size e))) (k b o e)
    have z : hp.objs.size + 1 + 1 ≤ dx := by
      first
        | (simpa only [Heap.size_push] using dn)
        | exact dn
        | (have q := dn; rw [Heap.size_push, Heap.size_push] at q; exact q)
    exact ⟨rfl, hq h' tk' (hp.objs.size + 1) dx ⟨old, Nat.le_succ _, ⟨_, _, hx, rfl, rfl, rfl, rfl⟩, Nat.le_trans (Nat.le_trans (Nat.le_succ _) (Nat.le_succ _)) z, dne, hns⟩⟩
end
end Xb
namespace Xb
open PySem PySem.Spec PyProof.Rows L2
theorem relO_at {v : V} {v' : Value} (r : RelV v v') (f : Str) : RelO (List.lookup f [(("at" : Str), v)]) (if f = "at" then some v' else none) := by
  by_cases hw : f = "at"
  · subst hw
    rw [if_pos rfl]
    have q : List.lookup ("at" : Str) [(("at" : Str), v)] = some v := by simp [List.lookup]
    rw [q]
    exact r
  · rw [if_neg hw]
    have qw : (f == ("at" : Str)) = false := by simpa using hw
    have q2 : List.lookup f [(("at" : Str), v)] = none := by simp [List.lookup, qw]
    rw [q2]
    trivial
section
variable {X : Cx} {cn : Str} {C fI : Addr}
/-- cn(e) -/
def tMk (C : Addr) (ta : TA) : L2.St → Hp → XK → Prop := fun σ H Q => ta σ H fun vs H1 => ∃ v, vs = [v] ∧ ∀ d, H1 d = none → Q (.ref C) (some d) (upd H1 d (.xd [(("at" : Str), v)]))
theorem pmk_at {a : Expr} {ta : TA} {p pos : Pos} {k : Nat} (T : ErrC X.K X.mg cn C fI) (hr : Room k X.A) (ha : PA X [a] ta) (hg : Gl X cn) (hdb : (cn == ("__debug__" : Str)) = false := by decide)
    (he : starEach (a :: []) X.env = (false, eval a X.env) :: starEach [] X.env := by rfl) (hpl : (backTo pos (starEach [] X.env)).any (·.1) = false := by rfl) :
    PMk X (.Call (.Name cn p) [a] [] pos) (tMk C ta) := by
  intro pins s σ H Q I h
  refine wpAny_Call_Name_kw (ld_glob I hg T.gC ?_ hdb)
  refine PySem.W.callWith_K (h₀ := X.base) I.ok.mod.kin T.kC (thn (ha.run pos pins s σ H _ I h) fun us s1 hh => ?_) he hpl
  obtain ⟨vs, H1, I1, r1, v, ev, q1⟩ := hh
  subst ev
  refine ⟨I1.kIn, ?_⟩
  cases r1 with
  | cons rv rn =>
    rename_i v' us'
    cases rn
    show wpAny _ _ (call (.ref C) [v']) _ _ _
    have hlim := I1.nolimit
    obtain ⟨hp, g, dr, tk, os⟩ := s1
    refine wpAny_call (err_made T I1.kIn hlim (by have := hr.dp; omega) fun h' tk' e d M => ?_)
    show MkP X pins σ Q (.ref e) ⟨h', g, dr, tk', os⟩
    obtain ⟨oe, fv, hoe, hc, hd, hdat, h1⟩ := M.obj
    have hns := M.ns
    obtain ⟨G', g1, g2⟩ := restrict h' fun b => decide (b ≠ e)
    have gk : ∀ b, b ≠ e → G'.get? b = h'.get? b := fun b hb => g1 b (decide_eq_true hb)
    have ge : G'.get? e = none := g2 e (by simp)
    have old : ∀ b o, hp.get? b = some o → G'.get? b = some o := fun b o q => (gk b (Nat.ne_of_lt (Nat.lt_of_lt_of_le (Heap.lt_size q) M.new))).trans (M.keep b o q)
    have ob : ObjOk X.prog X.w (upd H1 d (.xd [(("at" : Str), v)])) G' d (.xd [(("at" : Str), v)]) :=
      ⟨_, hns.at (fun o q => (gk d M.dne).trans q), fun f => relO_at rv f⟩
    have J : Inv X pins σ (upd H1 d (.xd [(("at" : Str), v)])) ⟨G', g, dr, tk', os⟩ := I1.laid (t' := tk') old M.dbig ob
    refine ⟨e, oe, fv, ⟨G', g, dr, tk', os⟩, _, .ref C, some d, rfl, J, fun b o q => ?_, ge, hoe, ⟨hc, hd⟩, hdat, h1, ?_, rfl, I1.bare, raises_own T.exC T.tyC, q1 d (I1.hok.fresh M.dbig)⟩
    · by_cases hb : b = e
      · have q' : G'.get? b = some o := q
        rw [hb, ge] at q'; cases q'
      · exact (gk b hb).symm.trans q
    · rw [upd_ne (Ne.symm M.dne)]
      exact I1.hok.fresh M.new
/-- raise cn(e) -/
def tRaise (C : Addr) (W : WX) (ta : TA) : TS := fun _ σ H => tMk C ta σ H fun cls d H' => W cls d σ H'
theorem ps_raiseAt {a : Expr} {ta : TA} {W : WX} {p pos pos2 : Pos} {k : Nat} (hc : X.calm = true) (T : ErrC X.K X.mg cn C fI) (hr : Room k X.A) (tk : Takes X W) (ha : PA X [a] ta) (hg : Gl X cn) (hdb : (cn == ("__debug__" : Str)) = false := by decide)
    (he : starEach (a :: []) X.env = (false, eval a X.env) :: starEach [] X.env := by rfl) (hpl : (backTo pos (starEach [] X.env)).any (·.1) = false := by rfl) :
    PS X (.Raise (some (.Call (.Name cn p) [a] [] pos)) none pos2) (tRaise C W ta) := ps_raise hc tk (pmk_at T hr ha hg hdb he hpl)
theorem ErrC.xf (T : ErrC X.K X.mg cn C fI) : XfC X.K C := ⟨T.ga, T.gg, T.exC, T.hdC⟩
end
end Xb

namespace K6
open PySem PySem.Spec PyProof.Rows L2 Hb St Sq Ow En Zp RZ Rd Xb
/-! ### a plain call of a def with a star -/
theorem pe_goR {X : Cx} {CX : CXT} {k : Nat} {f : Addr} {sp : Sp} {x : Str} {p pos : Pos} {e : Expr} {es : List Expr} {t : TA} {E : L2.St → XK} (F : FnR X.prog X.w X.K X.mg X.base CX k f sp) (hm : X.mg x = some (.ref f)) (hk : PySem.W.keepIn X.K (.ref f) = true) (hr : Room k X.A) (hx : ∀ σ, PassesAt CX X σ (E σ)) (hg : Gl X x) (ha : PA X (e :: es) t) (hdb : (x == ("__debug__" : Str)) = false := by decide)
    (he : starEach (e :: es) X.env = (false, eval e X.env) :: starEach es X.env := by rfl) (hpl : (backTo pos (starEach es X.env)).any (·.1) = false := by rfl) : PE X (.Call (.Name x p) (e :: es) [] pos) (tCallS sp E t) := by
  refine ⟨fun pins s σ H Q I h => wpAny_Call_Name_kw (ld_glob I hg hm ?_ hdb)⟩
  refine PySem.W.callWith_K (h₀ := X.base) I.ok.mod.kin hk (thn (ha.run pos pins s σ H _ I h) fun us s1 ⟨vs, H1, I1, r, q⟩ => ⟨I1.kIn, ?_⟩) he hpl
  refine wpAny_call (codeAny_mono (F X.A X.stack s1 H1 us vs Q (E σ) hr I1.env0 r q) fun r s' z => ?_)
  rcases r with u | (_ | _ | _ | v)
  · exact hx σ pins H1 s1 u s' I1 z
  · exact False.elim z
  · exact False.elim z
  · exact False.elim z
  · exact I1.after z
/-! ### need_tales -/
def firstNo (ds : List PyData) : Option Nat := ds.findIdx? fun d => !taleD d
section
variable {P : Program} {w : World} {K : PySem.W.Frag} {mg : Str → Option Value} {base : Heap}
abbrev s_need_tales : Stmt := top 19
theorem sc_need_tales : FnScope ["values", "at", "value"] [] (defScope s_need_tales) := ⟨rfl, rfl, rfl, by decide +kernel, rfl, by decide +kernel, by decide +kernel⟩
def errH (at_ : Int) : HO := .xd [(("at" : Str), .int at_)]
def spNeed (K : PySem.W.Frag) (C : Addr) : Sp := fun vs H Q E => ∃ (p : Addr) (xs : List V) (ds : List PyData), vs = [.ref p] ∧ H p = some (.tup xs) ∧ All2 (Dp K H) xs ds ∧ ds.length ≤ 1000 ∧ (∀ d ∈ ds, Sm2 d) ∧ (firstNo ds = none → ∀ H', Same H H' → Q .non H') ∧
  ∀ k, firstNo ds = some k → ∀ dd H', Same H H' → H' dd = some (errH (k : Nat)) → E (.ref C) (some dd) H'
def spNeedR (K : PySem.W.Frag) (C : Addr) : Sp := fun vs H Q E => ∃ ws rest : List V, vs = ws ++ rest ∧ ws.length = 0 ∧ rest.length ≤ sizeLine ∧ ∀ p : Addr, H p = none → spNeed K C (ws ++ [V.ref p]) (upd H p (.tup rest)) Q E
theorem sc_nt : FnScope ["values", "at", "value"] (([] : List Str) ++ [("values" : Str)]) (defScope s_need_tales) := ⟨rfl, rfl, rfl, by decide +kernel, rfl, by decide +kernel, by decide +kernel⟩
theorem ok_need {f C fI : Addr} {fd : FuncData} (F : Fun K "need_tales" "need_tales" s_need_tales f fd) (T : ErrC K mg "InvalidHeard" C fI) (C_is_tale : Cl P w K mg base "is_tale" ["value"] [] 3 (spIsTale K)) (n_enumerate : mg "enumerate" = none) : FnR P w K mg base (L2.CX P w) 4 f (spNeedR K C) := by
  obtain ⟨oc, od, kV, doc, pm, an, cdv, ct, osl, rfl, lk, hcd⟩ := F.ex
  refine StX.fn_star (ps := []) (pv := "values") (sp := spNeed K C) lk hcd sc_nt StX.cxUp (fun us rest hu => ?_) (fun A outer s H vs Q E hr h => ?_)
  · cases us with
    | nil => cases rest <;> rfl
    | cons _ _ => cases hu
  · obtain ⟨p, xs, ds, rfl, hp, al, dl, sm, q, e⟩ := h
    refine ⟨_, (pss_one (ps_for (passes_of rfl) rfl (pi_enumT (by rfl) n_enumerate (pa_cons (pv 0) pa_nil)) (pg_tup rfl (pgs_cons (pg_name (i := 1) sc_nt.nd rfl (Or.inl rfl)) (pgs_cons (pg_name (i := 2) sc_nt.nd rfl (Or.inl rfl)) pgs_nil)))
      (pss_one (ps_if (pt_not (pt_val (pe_use C_is_tale (hr.mono (by decide)) rfl (pa_cons (pv 2) pa_nil)))) (pss_one (ps_raiseAt rfl T hr (takes_of rfl rfl rfl rfl) (pa_cons (pv 1) pa_nil) rfl)) pss_nil)))), ?_⟩
    refine ⟨_, rfl, p, rfl, ⟨xs, SqT.of hp⟩, ?_⟩
    refine for_en en_tup (fun i σ H' => (∃ o1 o2, σ = [some (.ref p), o1, o2]) ∧ Same H H' ∧ ∀ d ∈ ds.take i, taleD d = true) ⟨⟨none, none, rfl⟩, Same.refl _, fun d hd => by cases hd⟩ (fun i σ H' pv => SqT.of (pv.2.1 _ _ hp)) ?_ ?_
    · rintro i σ H1 x t ex ⟨⟨o1, o2, rfl⟩, s1, all⟩ ht
      have s2 := same_new ht (.tup [.int (i : Nat), x])
      refine ⟨t, _, rfl, SqT.of upd_same, rfl, _, _, rfl, _, _, rfl, rfl, ?_⟩
      generalize upd H1 t (.tup [.int (i : Nat), x]) = H2 at s2 ⊢
      obtain ⟨d, ed, hd⟩ := al.get ex
      refine ⟨_, rfl, x, d, rfl, dp_same (s1.trans s2) hd, sm d (at_mem ed), fun H3 s3 => ⟨_, rfl, ?_⟩⟩
      have s13 := (s1.trans s2).trans s3
      cases c : taleD d with
      | true =>
        refine iteF ⟨⟨_, _, rfl⟩, s13, fun d' hd' => ?_⟩
        rw [List.take_add_one, ed] at hd'
        rcases List.mem_append.mp hd' with z | z
        · exact all d' z
        · rw [List.mem_singleton.mp z]; exact c
      | false =>
        refine iteT ⟨_, rfl, _, rfl, fun dd hn => ?_⟩
        refine e i ?_ dd _ (s13.trans (same_new hn _)) upd_same
        unfold firstNo
        rw [List.findIdx?_eq_some_iff_getElem]
        have hi : i < ds.length := (List.getElem?_eq_some_iff.mp ed).1
        refine ⟨hi, ?_, fun j hj => ?_⟩
        · rw [(List.getElem?_eq_some_iff.mp ed).2, c]; rfl
        · have hj' : j < ds.length := by omega
          rw [all (ds[j]) (List.mem_iff_getElem?.mpr ⟨j, by rw [List.getElem?_take_of_lt hj]; exact List.getElem?_eq_getElem hj'⟩)]; decide
    · rintro σ H1 ⟨⟨o1, o2, rfl⟩, s1, all⟩
      refine q ?_ _ s1
      unfold firstNo
      rw [List.findIdx?_eq_none_iff]
      intro d hd
      rw [List.take_of_length_le (by rw [al.len]; exact Nat.le_refl _)] at all
      rw [all d hd]; rfl
end
end K6

/-! a name that holds a def which may raise; calls by keywords of such; the law itself, its code object known -/
namespace Lc
open PySem PySem.Spec PyProof.Rows L2 Hb LamX
/-- the def at f, one that may raise, keeps sp -/
structure DfX (P : Program) (w : World) (K : PySem.W.Frag) (mg : Str → Option Value) (base : Heap) (lv : Nat) (f : Addr) (sp : Sp) : Prop where
  ex : ∃ (ps : List Str) (fd : FuncData), FnOk P w K mg base (L2.CX P w) lv f fd ps sp ∧ PySem.W.keepIn K (.ref f) = true ∧ Binds K fd ps []
theorem DfX.of {P : Program} {w : World} {K : PySem.W.Frag} {mg : Str → Option Value} {base : Heap} {j lv : Nat} {f : Addr} {fd : FuncData} {ps : List Str} {sp sp' : Sp} (F : FnOk P w K mg base (L2.CX P w) j f fd ps sp') (kp : PySem.W.keepIn K (.ref f) = true) (b : Binds K fd ps []) (h : j ≤ lv) (le : ∀ vs H Q E, sp vs H Q E → sp' vs H Q E) : DfX P w K mg base lv f sp :=
  ⟨ps, fd, ⟨fun vs H Q E z => F.len vs H Q E (le _ _ _ _ z), fun A o s H args us vs Q E r e0 bi va z => F.run A o s H args us vs Q E (r.mono h) e0 bi va (le _ _ _ _ z)⟩, kp, b⟩
def tVarX (P : Program) (w : World) (K : PySem.W.Frag) (mg : Str → Option Value) (base : Heap) (lv i : Nat) (sp : Sp) (E : L2.St → XK) (ta : TA) : TE := fun σ H Q => ∃ f, σ[i]? = some (some (.ref f)) ∧ DfX P w K mg base lv f sp ∧ ta σ H fun vs H1 => sp vs H1 Q (E σ)
theorem pe_varX {X : Cx} {a : Str} {lv i : Nat} {sp : Sp} {E : L2.St → XK} {p pos : Pos} {e : Expr} {es : List Expr} {ta : TA} (nm : X.N[i]? = some a) (vis : Vis X.env.scope a) (hr : Room lv X.A) (hx : ∀ σ, PassesAt (L2.CX X.prog X.w) X σ (E σ)) (ha : PA X (e :: es) ta)
    (d1 : (a == ("__debug__" : Str)) = false := by decide) (d2 : (a == ("__classdict__" : Str)) = false := by decide)
    (se : starEach (e :: es) X.env = (false, eval e X.env) :: starEach es X.env := by rfl) (sp' : (backTo pos (starEach es X.env)).any (·.1) = false := by rfl) :
    PE X (.Call (.Name a p) (e :: es) [] pos) (tVarX X.prog X.w X.K X.mg X.base lv i sp E ta) := by
  refine ⟨fun pins s σ H Q I h => ?_⟩
  obtain ⟨f, hf, ⟨ps, fd, F, kp, b⟩, h⟩ := h
  refine wpAny_Call_Name_kw (thn ((pe_var (pos := p) (i := i) nm vis d1 d2).run pins s σ H (fun v H1 => v = .ref f ∧ H1 = H) I ⟨.ref f, hf, rfl, rfl⟩) fun u s1 ⟨v, H1, I1, r1, ev, eH⟩ => ?_)
  subst ev
  rw [eH] at I1
  obtain rfl : u = Value.ref f := r1
  refine PySem.W.callWith_K (h₀ := X.base) I1.ok.mod.kin kp (thn (ha.run pos pins s1 σ H _ I1 h) fun us s2 ⟨vs, H2, I2, r2, q⟩ => ⟨I2.kIn, ?_⟩) se sp'
  exact run_fnS F hr b (hx σ) I2 r2 q
/-- f(k = v, ..), a def that may raise -/
structure CkX (P : Program) (w : World) (K : PySem.W.Frag) (mg : Str → Option Value) (base : Heap) (x : Str) (ps : List Str) (ks : List Str) (gV : List V → List V → List V) (lv : Nat) (sp : Sp) : Prop where
  ex : ∃ (f : Addr) (fd : FuncData) (g : List Value → List Value → List Value), FnOk P w K mg base (L2.CX P w) lv f fd ps sp ∧ mg x = some (.ref f) ∧ PySem.W.keepIn K (.ref f) = true ∧ KBn K fd ps 0 ks g gV
theorem pe_useKX {X : Cx} {ps ks : List Str} {gV : List V → List V → List V} {lv : Nat} {sp : Sp} {x : Str} {p pos : Pos} {tk : TA} {kws : List Keyword} {E : XK} (C : CkX X.prog X.w X.K X.mg X.base x ps ks gV lv sp) (hr : Room lv X.A) (hx : Passes (L2.CX X.prog X.w) X E) (gl : Gl X x) (hkw : PK X kws tk)
    (hall : (backToKw pos (keywordEach kws X.env)).all (·.1.isSome) = true := by rfl) (hks : (backToKw pos (keywordEach kws X.env)).filterMap (·.1) = ks := by rfl)
    (db : (x == ("__debug__" : Str)) = false := by decide) (spl : ((backTo pos (starEach [] X.env)).any (·.1) || (backToKw pos (keywordEach kws X.env)).any (·.1.isNone)) = false := by rfl) :
    PE X (.Call (.Name x p) [] kws pos) (tCallN 0 ks.length sp gV E tNil tk) := by
  obtain ⟨f, fd, g, F, mgx, kp, b⟩ := C.ex
  refine ⟨fun pins s σ H Q I h => wpAny_Call_Name_kw (ld_glob I gl mgx ?_ db)⟩
  refine PySem.W.callWith_KW0 (h₀ := X.base) I.ok.mod.kin kp hall ?_ spl
  refine thn (hkw.run pos pins s σ H _ I h) fun ws s2 ⟨zs, H2, I2, rz, l1, l2, q2⟩ => ⟨I2.kIn, ?_⟩
  rw [hks]
  exact run_fnN (us := []) (vs := []) F hr b hx I2 .nil rz rfl l2 q2
/-- a def by its body, its code object at c -/
theorem okC {P : Program} {w : World} {K : PySem.W.Frag} {mg : Str → Option Value} {base : Heap} {x qual : Str} {st : Stmt} {f c : Addr} {oc : Value} {od an : Option Addr} {osl : Array (Option Value)} {kV doc pm ct : Value} {N ps : List Str} {k : Nat} {sp : Sp}
    (lk : K.lookup f = some ⟨oc, od, .func (PySem.W.fnOf x qual (defArgs st) (defBody st) (defScope st) .none kV doc pm an (.ref c) ct), osl⟩) (cd : PySem.W.codeIn K (.ref c) qual = true) (S : FnScope N ps (defScope st)) (len : ∀ vs H Q E, sp vs H Q E → vs.length = ps.length)
    (hbody : ∀ (A : Around) (outer : List Env) (s : Shared) (H : Hp) (vs : List V) (Q : VK) (E : XK), Room k (A.deeper (envOfC qual (defScope st) s.heap.objs.size f (.ref c))) → sp vs H Q E →
      ∃ t, PSs (cxOf CX0 P w K mg base N qual (defScope st) f (.ref c) A outer s H E).nox (defBody st) t ∧ t { nx := fun _ H' => Q .non H', rt := Q } (start N vs) H) :
    FnOk P w K mg base CX0 (k + 1) f (PySem.W.fnOf x qual (defArgs st) (defBody st) (defScope st) .none kV doc pm an (.ref c) ct) ps sp := by
  refine fn_of lk cd S len fun A outer s H vs Q E hr hsp => ?_
  obtain ⟨t, h, q⟩ := hbody A outer s H vs Q E hr hsp
  exact ⟨t, h.nox, q⟩
end Lc

/-! a lambda with parameters that captures nothing: made, kept in a tuple, called by a name -/
namespace Lp
open PySem PySem.Spec PyProof.Rows L2 Hb LamX Lc
/-- the lambda that stands at f, its code object at c -/
def LamO (q : Str) (prm : Arguments) (bod : Expr) (sc : Scope) (c f : Addr) : HO := .ext fun h => ∃ pm ct : Value, h.get? f = some (PySem.W.kla_obj "<lambda>" q prm bod sc [] pm c ct)
theorem clo_nil {cells : List (Str × Addr)} : ∀ {ns : List (Str × NameKind)} {acc : List (Str × Addr)}, (∀ y ∈ ns, y.2 ≠ .free) → cloFrom cells ns acc = acc
  | [], _, _ => rfl
  | (n, k) :: r, acc, h => by
    have hk : (k == NameKind.free) = false := by
      have := h (n, k) (.head _)
      cases k <;> first | rfl | exact absurd rfl this
    show (if (k == NameKind.free) = true then _ else cloFrom cells r acc) = acc
    rw [hk, if_neg (by decide)]
    exact clo_nil fun y m => h y (.tail _ m)
section
variable {X : Cx} {pins : List (Addr × Obj)} {σ : L2.St} {H : Hp} {s : Shared}
theorem laid_lam {q : Str} {prm : Arguments} {bod : Expr} {sc : Scope} {pm ct : Value} {c : Addr} {h' : Heap} {t t' : Nat} (I : Inv X pins σ H { s with heap := h', toks := t }) :
    Inv X pins σ (upd H h'.objs.size (LamO q prm bod sc c h'.objs.size)) { s with heap := h'.push (PySem.W.kla_obj "<lambda>" q prm bod sc [] pm c ct), toks := t' } := by
  have at_ : (h'.push (PySem.W.kla_obj "<lambda>" q prm bod sc [] pm c ct)).get? h'.objs.size = some (PySem.W.kla_obj "<lambda>" q prm bod sc [] pm c ct) := Heap.get?_push_size _ rfl
  exact I.laid (t' := t') (fun b u e => Heap.get?_push_of_some _ e) (Nat.le_refl _) (show ObjOk _ _ _ _ _ (LamO q prm bod sc c h'.objs.size) from ⟨⟨pm, ct, at_⟩, ⟨_, at_⟩, fun h1 h2 ⟨a, b, e⟩ st => ⟨a, b, st _ e⟩⟩)
theorem make_lam {T : List (Addr × Str)} {c P : Addr} {prm : Arguments} {bod : Expr} {sc : Scope} {pos : Pos} {E Q : Value → Shared → Prop} (I : Inv X pins σ H s) (tb : TabB X.base X.mg c P) (ec : X.env.code = .ref c)
    (inT : (P, X.env.qual ++ "<lambda>") ∈ T) (one : ∀ y ∈ T, y.1 = P → y.2 = X.env.qual ++ "<lambda>") (tt : Tabs T H) (nd : defaultsOf prm X.env = ([], [])) (nf : ∀ y ∈ sc.names, y.2 ≠ .free)
    (k : ∀ (f c1 : Addr) (H1 : Hp) (s1 : Shared), Inv X pins σ (upd H1 f (LamO (X.env.qual ++ "<lambda>") prm bod sc c1 f)) s1 → ExtN H H1 → Tabs T H1 → H1 f = none → H1 c1 = some (CodeO c1 (X.env.qual ++ "<lambda>")) → Q (.ref f) s1) :
    wpAny (model X.prog X.w) X.A (eval (.Lambda prm bod sc pos) X.env) Q E s := by
  obtain ⟨ps, tP, tok, tall⟩ := tt _ inT
  have clo : closureFor sc X.env = pure [] := by
    have z := closure_ok (scope := sc) (env := X.env) fun y m e => absurd e (nf y m)
    rwa [clo_nil nf] at z
  have bts : s.heap.BuiltinsAt X.mg P := tb.bm.keeps I.bk
  have tP0 : s.heap.get? P = some { cls := .none, data := .fields ps } := I.hok P _ tP
  refine PySem.W.kla_eval nd ?_
  rcases found : codeAmong pos ps.toList with _ | cv
  · refine PySem.W.kla_makeFunction (clos := []) (mg := X.mg) (c := c) (P := P) (ps := ps) clo I.ok.glob (I.mod.glob.keeps I.bk) ec (tb.code.keeps I.bk) tP0 tok found tb.gP bts fun c1 ct h1 tk ext new lt rec tab => ?_
    obtain ⟨c2, oc, fs, t, eq2, goc, dat, at1⟩ := rec
    cases eq2
    have nc : H c1 = none := I.hok.fresh new
    have J := inv_table (t' := tk) (more := #[rawInt pos.line, rawInt pos.col, .ref c1]) I tP ext tab new ⟨oc, fs, t, goc, dat, at1⟩
    have xt : ExtN H (upd (upd H P (.tbl (ps ++ #[rawInt pos.line, rawInt pos.col, .ref c1]))) c1 (CodeO c1 (X.env.qual ++ "<lambda>"))) := fun b o e nt => by
      have n1 : b ≠ P := fun z => by rw [z, tP] at e; exact nt ps (Option.some.inj e).symm
      rw [upd_ne (ne_of_none e nc), upd_ne n1]; exact e
    have tl : (ps ++ #[rawInt pos.line, rawInt pos.col, .ref c1]).toList = ps.toList ++ [rawInt pos.line, rawInt pos.col, .ref c1] := Array.toList_append
    have sz : s.heap.objs.size ≤ h1.objs.size := Nat.le_trans new (Nat.le_of_lt lt)
    refine k h1.objs.size c1 _ _ (laid_lam J) xt (fun y m => ?_) ?_ upd_same
    · rcases Decidable.em (y.1 = P) with e | e
      · rw [one y m e, e]
        refine ⟨_, by rw [upd_ne (ne_of_none tP nc), upd_same], by rw [tl]; exact PySem.TriplesOk_snoc _ _ _ _ tok, fun p1 cv e1 => ?_⟩
        rw [tl] at e1
        rcases among_app _ tok e1 with z | z
        · obtain ⟨c0, a1, a2⟩ := tall p1 cv z
          exact ⟨c0, a1, xt _ _ a2 codeO_ne⟩
        · exact ⟨c1, z, upd_same⟩
      · obtain ⟨qs, a1, a2, a3⟩ := tt y m
        refine ⟨qs, by rw [upd_ne (ne_of_none a1 nc), upd_ne e]; exact a1, a2, fun p1 cv e1 => ?_⟩
        obtain ⟨c0, b1, b2⟩ := a3 p1 cv e1
        exact ⟨c0, b1, xt _ _ b2 codeO_ne⟩
    · rw [upd_ne (Nat.ne_of_gt lt), upd_ne (Nat.ne_of_gt (Nat.lt_of_lt_of_le (Heap.lt_size tP0) sz))]
      exact I.hok.fresh sz
  · obtain ⟨c1, rfl, co⟩ := tall pos cv found
    refine PySem.W.kla_makeFunctionHit (clos := []) (mg := X.mg) (c := c) (P := P) (ps := ps) clo I.ok.glob (I.mod.glob.keeps I.bk) ec (tb.code.keeps I.bk) tP0 tok found bts fun ct h1 tk ext sz => ?_
    have J : Inv X pins σ H { s with heap := h1, toks := tk } := I.kept ext
    exact k h1.objs.size c1 H _ (laid_lam J) (ExtN.refl H) tt (I.hok.fresh sz) co
/-- lambda a, b, ..: e -/
def tLamP (T : List (Addr × Str)) (q : Str) (prm : Arguments) (bod : Expr) (sc : Scope) : TE := fun _ H Q => Tabs T H ∧ ∀ f c1 H1, ExtN H H1 → Tabs T H1 → H1 f = none → H1 c1 = some (CodeO c1 q) → Q (.ref f) (upd H1 f (LamO q prm bod sc c1 f))
theorem pe_lamP {T : List (Addr × Str)} {c P : Addr} {prm : Arguments} {bod : Expr} {sc : Scope} {pos : Pos} (tb : TabB X.base X.mg c P) (ec : X.env.code = .ref c) (inT : (P, X.env.qual ++ "<lambda>") ∈ T) (one : ∀ y ∈ T, y.1 = P → y.2 = X.env.qual ++ "<lambda>")
    (nd : defaultsOf prm X.env = ([], [])) (nf : ∀ y ∈ sc.names, y.2 ≠ .free) : PE X (.Lambda prm bod sc pos) (tLamP T (X.env.qual ++ "<lambda>") prm bod sc) :=
  ⟨fun pins s σ H Q I h => make_lam I tb ec inT one h.1 nd nf fun f c1 H1 s1 J xt t1 n1 e1 => ⟨.ref f, _, J, rfl, h.2 f c1 H1 xt t1 n1 e1⟩⟩
end
/-- what such a lambda keeps, wherever it stands -/
structure LmOk (P : Program) (w : World) (K : PySem.W.Frag) (mg : Str → Option Value) (base : Heap) (CX : CXT) (lv : Nat) (q : Str) (prm : Arguments) (bod : Expr) (sc : Scope) (N ps : List Str) (sp : Sp) : Prop where
  S : FnScope N ps sc
  len : ∀ vs H Q E, sp vs H Q E → vs.length = ps.length
  bind : ∀ (us : List Value) (pm cv ct : Value), us.length = ps.length → bindArgs (PySem.W.kla_fn "<lambda>" q prm bod sc [] pm cv ct) ⟨us, []⟩ = pure (ps.zip us)
  run : ∀ (f c : Addr) (A : Around) (outer : List Env) (s : Shared) (H : Hp) (vs : List V) (Q : VK) (E : XK), Room lv (A.deeper (envOfC q sc s.heap.objs.size f (.ref c))) → sp vs H Q E → ∃ te, PE (cxOf CX P w K mg base N q sc f (.ref c) A outer s H E) bod te ∧ te (L2.start N vs) H Q
section
variable {P : Program} {w : World} {K : PySem.W.Frag} {mg : Str → Option Value} {base : Heap} {CX : CXT} {lv : Nat} {q : Str} {prm : Arguments} {bod : Expr} {sc : Scope} {N ps : List Str} {sp : Sp}
theorem run_lam (L : LmOk P w K mg base CX lv q prm bod sc N ps sp) {f c : Addr} {A : Around} {outer : List Env} {s : Shared} {H : Hp} {us : List Value} {vs : List V} {Q : VK} {E : XK} (hr : Room (lv + 1) A) (e0 : Env0 P w K mg base A outer s H) (ef : H f = some (LamO q prm bod sc c f)) (eco : H c = some (CodeO c q)) (r : Vals vs us) (z : sp vs H Q E) :
    codeAny (model P w) A (.call (.ref f) ⟨us, []⟩) (CR CX outer P w H s Q E) s := by
  obtain ⟨⟨pm, ct, gf⟩, _, _⟩ := e0.hok f _ ef
  obtain ⟨⟨oc, fs, t, goc, dat, at1⟩, _, _⟩ := e0.hok c _ eco
  have ln := L.len _ _ _ _ z
  have lim : s.heap.NoLimit := e0.mod.nolimit.keeps fun b o e => (e0.bs b o e).1
  have kinds : ∀ y ∈ ps.zip us, sc.names.lookup y.1 = some .local ∨ (sc.names.lookup y.1 = some .cell ∧ ((cellsFrom (s.heap.objs.size + 1) sc.names []).lookup y.1).isSome = true) := fun ⟨n, v⟩ m => by
    rcases L.S.par n (List.of_mem_zip m).1 with e | e
    · exact .inl e
    · exact .inr ⟨e, PySem.W.cellsFrom_some _ _ _ (.inl e)⟩
  refine PySem.W.kla_callFunE hr.depth gf rfl L.S.co L.S.gen rfl ⟨c, oc, fs, t, rfl, goc, dat, at1⟩ ?_
  rw [L.bind us _ _ _ (by rw [← r.length]; exact ln)]
  refine wpAny_pure (wpAny_newFunctionEnv_cells L.S.kind kinds fun env he s1 x => ?_)
  subst he
  refine ⟨lim.keeps x.toInCall.keep, PySem.W.kla_codeExpr ?_⟩
  obtain ⟨te, pe, hq⟩ := L.run f c A outer s H vs Q E (hr.deeper _) z
  have I : Inv (cxOf CX P w K mg base N q sc f (.ref c) A outer s H E) [] (L2.start N vs) H s1 := inv_start L.S hr.hd e0 ln r x
  refine wpAny_mono (pe.run [] s1 _ H Q I hq) (fun v s2 ⟨y, H2, J, rv, q2⟩ => ?_) fun _ _ e => e
  exact ⟨y, H2, J.os, J.bare, J.base, J.hok, rv, q2⟩
end
/-- the value at f may be called: a def of the text, or a lambda -/
def tVarL (P : Program) (w : World) (K : PySem.W.Frag) (mg : Str → Option Value) (base : Heap) (lv i : Nat) (sp : Sp) (E : L2.St → XK) (ta : TA) : TE := fun σ H Q => ∃ f, σ[i]? = some (some (.ref f)) ∧
  ((DfX P w K mg base lv f sp ∧ ta σ H fun vs H1 => sp vs H1 Q (E σ)) ∨
   (∃ q prm bod sc c N ps j, LmOk P w K mg base (L2.CX P w) j q prm bod sc N ps sp ∧ j + 1 ≤ lv ∧ H f = some (LamO q prm bod sc c f) ∧ ta σ H fun vs H1 => H1 f = some (LamO q prm bod sc c f) ∧ H1 c = some (CodeO c q) ∧ sp vs H1 Q (E σ)))
theorem fn_at {X : Cx} {pins : List (Addr × Obj)} {σ : L2.St} {H : Hp} {s : Shared} {q : Str} {prm : Arguments} {bod : Expr} {sc : Scope} {c f : Addr} (I : Inv X pins σ H s) (e : H f = some (LamO q prm bod sc c f)) : PySem.W.FnAt f s.heap := by
  obtain ⟨⟨pm, ct, g⟩, _, _⟩ := I.hok f _ e
  exact ⟨_, _, _, _, g⟩
theorem pe_varL {X : Cx} {a : Str} {lv i : Nat} {sp : Sp} {E : L2.St → XK} {p pos : Pos} {e : Expr} {es : List Expr} {ta : TA} (nm : X.N[i]? = some a) (vis : Vis X.env.scope a) (hr : Room lv X.A) (hx : ∀ σ, PassesAt (L2.CX X.prog X.w) X σ (E σ)) (ha : PA X (e :: es) ta)
    (d1 : (a == ("__debug__" : Str)) = false := by decide) (d2 : (a == ("__classdict__" : Str)) = false := by decide)
    (se : starEach (e :: es) X.env = (false, eval e X.env) :: starEach es X.env := by rfl) (spl : (backTo pos (starEach es X.env)).any (·.1) = false := by rfl) :
    PE X (.Call (.Name a p) (e :: es) [] pos) (tVarL X.prog X.w X.K X.mg X.base lv i sp E ta) := by
  refine ⟨fun pins s σ H Q I h => ?_⟩
  obtain ⟨f, ef, h⟩ := h
  rcases h with ⟨D, h⟩ | ⟨q, prm, bod, sc, c, N, ps, j, L, jl, eo, h⟩
  · exact (pe_varX (p := p) nm vis hr hx ha d1 d2 se spl).run pins s σ H Q I ⟨f, ef, D, h⟩
  · refine wpAny_Call_Name_kw (thn ((pe_var (pos := p) (i := i) nm vis d1 d2).run pins s σ H (fun v H1 => v = .ref f ∧ H1 = H) I ⟨.ref f, ef, rfl, rfl⟩) fun u s1 ⟨v, H1, I1, r1, ev, eH⟩ => ?_)
    subst ev eH
    obtain rfl : u = Value.ref f := r1
    refine PySem.W.callWith_F (fn_at I1 eo) (thn (ha.run pos pins s1 σ H1 _ I1 h) fun us s2 ⟨vs, H2, I2, r2, o2, co2, q2⟩ => ⟨fn_at I2 o2, ?_⟩) se spl
    refine wpAny_call (codeAny_mono (run_lam L (hr.mono jl) I2.env0 o2 co2 r2 q2) fun r s3 hq => ?_)
    cases r with
    | error er => exact hx σ pins H2 s2 er s3 I2 hq
    | ok fl =>
      cases fl with
      | ret u => exact I2.after hq
      | next => exact False.elim hq
      | brk => exact False.elim hq
      | cont => exact False.elim hq
end Lp

/-! closures with parameters: made, handed to a def, called there. The def's promise is known over every greater base: the maker's cells lie in it. -/
namespace Cq
open PySem PySem.Spec PyProof.Rows L2 Hb LamX Lc Lp
/-! ### greater bases -/
structure LeB (K : PySem.W.Frag) (mg : Str → Option Value) (b b' : Heap) : Prop where
  mod : Mod K mg b
  get : ∀ a o, b.get? a = some o → b'.get? a = some o
  size : b.objs.size ≤ b'.objs.size
theorem LeB.refl {K : PySem.W.Frag} {mg : Str → Option Value} {b : Heap} (M : Mod K mg b) : LeB K mg b b := ⟨M, fun _ _ h => h, Nat.le_refl _⟩
section
variable {P : Program} {w : World} {K : PySem.W.Frag} {mg : Str → Option Value} {base base' : Heap}
theorem env0_down {A : Around} {outer : List Env} {s : Shared} {H : Hp} (le : LeB K mg base base') (e : Env0 P w K mg base' A outer s H) : Env0 P w K mg base A outer s H :=
  ⟨e.frames, le.mod, fun b o h => e.bs b o (le.get b o h), Nat.le_trans le.size e.bsz, funFrames_none e.funs (fun L hL => by
    cases q : base.get? L with
    | none => rfl
    | some o =>
      have := (e.funs.mem hL).1
      rw [le.get L o q] at this
      cases this), e.frf, e.hok, e.bare⟩
theorem FnOk.up {CX : CXT} {k : Nat} {f : Addr} {fd : FuncData} {ps : List Str} {sp : Sp} (F : FnOk P w K mg base CX k f fd ps sp) (le : LeB K mg base base') : FnOk P w K mg base' CX k f fd ps sp :=
  ⟨F.len, fun A outer s H args us vs Q E hr e0 => F.run A outer s H args us vs Q E hr (env0_down le e0)⟩
/-! ### the heap without what is tracked and without the frames -/
def hidF (h : Heap) (H : Hp) (fs : List Addr) : Heap := PySem.W.hideAll (hidT h H) fs
theorem hidF_get {h : Heap} {H : Hp} {fs : List Addr} {b : Addr} {o : Obj} (e : h.get? b = some o) (n : H b = none) (m : b ∉ fs) : (hidF h H fs).get? b = some o :=
  PySem.W.hideAll_get _ (hidT_get e n) m
theorem of_hidF {h : Heap} {H : Hp} {fs : List Addr} {b : Addr} {o : Obj} (e : (hidF h H fs).get? b = some o) : h.get? b = some o ∧ H b = none ∧ b ∉ fs := by
  obtain ⟨e1, e2⟩ := of_hidT (PySem.W.of_hideAll fs e)
  refine ⟨e1, e2, fun m => ?_⟩
  have z : (hidF h H fs).get? b = none := PySem.W.hideAll_none fs m
  rw [z] at e; cases e
theorem hidF_size (h : Heap) (H : Hp) (fs : List Addr) : (hidF h H fs).objs.size = h.objs.size := (PySem.W.hideAll_size _ _).trans (hidT_size _ _)
end
section
variable {X : Cx} {pins : List (Addr × Obj)} {σ : L2.St} {H : Hp} {s : Shared}
theorem le_hid (I : Inv X pins σ H s) : LeB X.K X.mg X.base (hidF s.heap H (frs X.stack)) :=
  ⟨I.mod, fun a o e => hidF_get (I.bs a o e).1 (I.bs a o e).2 fun m => by
    have := (I.stack.mem m).1
    rw [e] at this; exact (nomatch this), by rw [hidF_size]; exact Nat.le_trans I.ok.bsz I.sz⟩
theorem env0_hid (I : Inv X pins σ H s) : Env0 X.prog X.w X.K X.mg (hidF s.heap H (frs X.stack)) X.A X.stack s H := by
  have e := I.env0
  have le := le_hid I
  refine ⟨e.frames, ?_, fun b o h => ⟨(of_hidF h).1, (of_hidF h).2.1⟩, Nat.le_of_eq (hidF_size _ _ _), funFrames_none e.funs fun L hL => ?_, e.frf, e.hok, e.bare⟩
  · have M := I.mod
    have ns : ∀ {b : Addr} {m : Str → Option Value}, X.base.Ns b m → (hidF s.heap H (frs X.stack)).Ns b m := fun {b m} ⟨o, es, ep, e, d, r⟩ => ⟨o, es, ep, le.get _ _ e, d, r⟩
    exact ⟨M.kin.keeps le.get, ns M.glob, let ⟨mb, h1, h2⟩ := M.blt; ⟨mb, ns h1, h2⟩, M.nolimit.keeps le.get⟩
  · exact PySem.W.hideAll_none _ hL
/-- what X's cells hold, in a base -/
structure CelB (X : Cx) (σ : L2.St) (b : Heap) : Prop where
  inj : ∀ x y c, X.env.cells.lookup x = some c → X.env.cells.lookup y = some c → x = y
  all : ∀ x c, X.env.cells.lookup x = some c → ∃ o v, b.get? c = some o ∧ o.data = .cell v
  has : ∀ x, (X.env.scope.names.lookup x = some .cell ∨ X.env.scope.names.lookup x = some .free) → ∃ c, X.env.cells.lookup x = some c
  val : ∀ (i : Nat) x v, X.N[i]? = some x → σ[i]? = some (some v) → (X.env.scope.names.lookup x = some .cell ∨ X.env.scope.names.lookup x = some .free) → ∃ c o u, X.env.cells.lookup x = some c ∧ b.get? c = some o ∧ o.data = .cell (some u) ∧ RelV v u
theorem celB_hid (I : Inv X pins σ H s) (hfn : ∀ x, X.fn x = true) : CelB X σ (hidF s.heap H (frs X.stack)) := by
  have nf : ∀ x c, X.env.cells.lookup x = some c → c ∉ frs X.stack := fun x c e m => by
    rcases List.mem_cons.mp (I.stkSub c m) with z | z
    · exact I.cne x c e z
    · obtain ⟨_, o, ho, _⟩ := I.ok.funs.mem z
      exact absurd (Nat.lt_of_lt_of_le (Heap.lt_size ho) (I.ok.cab x c (hfn x) e)) (Nat.lt_irrefl _)
  refine ⟨I.ok.inj, fun x c e => ?_, I.ok.has, fun i x v h1 h2 h3 => ?_⟩
  · obtain ⟨v, o, ho, hd⟩ := I.cell x c e
    exact ⟨o, v, hidF_get ho (I.freeC x c e) (nf x c e), hd⟩
  · obtain ⟨m, hn, hl⟩ := I.loc
    obtain ⟨u, r, q⟩ := hl i x v h1 h2 (h3.elim (fun k => .inr (.inl k)) fun k => .inr (.inr k))
    rcases q with ⟨k, _⟩ | ⟨_, c, e, o, ho, hd⟩
    · have k : X.env.scope.names.lookup x = some .local := k
      rcases h3 with z | z <;> rw [z] at k <;> cases k
    · exact ⟨c, o, u, e, hidF_get ho (I.freeC x c e) (nf x c e), hd, r⟩
end
/-! ### the closure -/
def CloO (q : Str) (prm : Arguments) (bod : Expr) (sc : Scope) (cl : List (Str × Addr)) (c f : Addr) : HO := .ext fun h => ∃ pm ct : Value, h.get? f = some (PySem.W.kla_obj "<lambda>" q prm bod sc cl pm c ct)
section
variable {X : Cx} {pins : List (Addr × Obj)} {σ : L2.St} {H : Hp} {s : Shared}
theorem laid_clo {q : Str} {prm : Arguments} {bod : Expr} {sc : Scope} {cl : List (Str × Addr)} {pm ct : Value} {c : Addr} {h' : Heap} {t t' : Nat} (I : Inv X pins σ H { s with heap := h', toks := t }) :
    Inv X pins σ (upd H h'.objs.size (CloO q prm bod sc cl c h'.objs.size)) { s with heap := h'.push (PySem.W.kla_obj "<lambda>" q prm bod sc cl pm c ct), toks := t' } := by
  have at_ : (h'.push (PySem.W.kla_obj "<lambda>" q prm bod sc cl pm c ct)).get? h'.objs.size = some (PySem.W.kla_obj "<lambda>" q prm bod sc cl pm c ct) := Heap.get?_push_size _ rfl
  exact I.laid (t' := t') (fun b u e => Heap.get?_push_of_some _ e) (Nat.le_refl _) (show ObjOk _ _ _ _ _ (CloO q prm bod sc cl c h'.objs.size) from ⟨⟨pm, ct, at_⟩, ⟨_, at_⟩, fun h1 h2 ⟨a, b, e⟩ st => ⟨a, b, st _ e⟩⟩)
theorem make_clo {T : List (Addr × Str)} {c P : Addr} {prm : Arguments} {bod : Expr} {sc : Scope} {pos : Pos} {E Q : Value → Shared → Prop} (I : Inv X pins σ H s) (tb : TabB X.base X.mg c P) (ec : X.env.code = .ref c)
    (inT : (P, X.env.qual ++ "<lambda>") ∈ T) (one : ∀ y ∈ T, y.1 = P → y.2 = X.env.qual ++ "<lambda>") (tt : Tabs T H) (nd : defaultsOf prm X.env = ([], [])) (nf : ∀ y ∈ sc.names, y.2 = .free → ∃ c, X.env.cells.lookup y.1 = some c)
    (k : ∀ (f c1 : Addr) (H1 : Hp) (s1 : Shared), Inv X pins σ (upd H1 f (CloO (X.env.qual ++ "<lambda>") prm bod sc (cloFrom X.env.cells sc.names []) c1 f)) s1 → ExtN H H1 → Tabs T H1 → H1 f = none → H1 c1 = some (CodeO c1 (X.env.qual ++ "<lambda>")) → Q (.ref f) s1) :
    wpAny (model X.prog X.w) X.A (eval (.Lambda prm bod sc pos) X.env) Q E s := by
  obtain ⟨ps, tP, tok, tall⟩ := tt _ inT
  have clo : closureFor sc X.env = pure (cloFrom X.env.cells sc.names []) := closure_ok nf
  have bts : s.heap.BuiltinsAt X.mg P := tb.bm.keeps I.bk
  have tP0 : s.heap.get? P = some { cls := .none, data := .fields ps } := I.hok P _ tP
  refine PySem.W.kla_eval nd ?_
  rcases found : codeAmong pos ps.toList with _ | cv
  · refine PySem.W.kla_makeFunction (clos := cloFrom X.env.cells sc.names []) (mg := X.mg) (c := c) (P := P) (ps := ps) clo I.ok.glob (I.mod.glob.keeps I.bk) ec (tb.code.keeps I.bk) tP0 tok found tb.gP bts fun c1 ct h1 tk ext new lt rec tab => ?_
    obtain ⟨c2, oc, fs, t, eq2, goc, dat, at1⟩ := rec
    cases eq2
    have nc : H c1 = none := I.hok.fresh new
    have J := inv_table (t' := tk) (more := #[rawInt pos.line, rawInt pos.col, .ref c1]) I tP ext tab new ⟨oc, fs, t, goc, dat, at1⟩
    have xt : ExtN H (upd (upd H P (.tbl (ps ++ #[rawInt pos.line, rawInt pos.col, .ref c1]))) c1 (CodeO c1 (X.env.qual ++ "<lambda>"))) := fun b o e nt => by
      have n1 : b ≠ P := fun z => by rw [z, tP] at e; exact nt ps (Option.some.inj e).symm
      rw [upd_ne (ne_of_none e nc), upd_ne n1]; exact e
    have tl : (ps ++ #[rawInt pos.line, rawInt pos.col, .ref c1]).toList = ps.toList ++ [rawInt pos.line, rawInt pos.col, .ref c1] := Array.toList_append
    have sz : s.heap.objs.size ≤ h1.objs.size := Nat.le_trans new (Nat.le_of_lt lt)
    refine k h1.objs.size c1 _ _ (laid_clo J) xt (fun y m => ?_) ?_ upd_same
    · rcases Decidable.em (y.1 = P) with e | e
      · rw [one y m e, e]
        refine ⟨_, by rw [upd_ne (ne_of_none tP nc), upd_same], by rw [tl]; exact PySem.TriplesOk_snoc _ _ _ _ tok, fun p1 cv e1 => ?_⟩
        rw [tl] at e1
        rcases among_app _ tok e1 with z | z
        · obtain ⟨c0, a1, a2⟩ := tall p1 cv z
          exact ⟨c0, a1, xt _ _ a2 codeO_ne⟩
        · exact ⟨c1, z, upd_same⟩
      · obtain ⟨qs, a1, a2, a3⟩ := tt y m
        refine ⟨qs, by rw [upd_ne (ne_of_none a1 nc), upd_ne e]; exact a1, a2, fun p1 cv e1 => ?_⟩
        obtain ⟨c0, b1, b2⟩ := a3 p1 cv e1
        exact ⟨c0, b1, xt _ _ b2 codeO_ne⟩
    · rw [upd_ne (Nat.ne_of_gt lt), upd_ne (Nat.ne_of_gt (Nat.lt_of_lt_of_le (Heap.lt_size tP0) sz))]
      exact I.hok.fresh sz
  · obtain ⟨c1, rfl, co⟩ := tall pos cv found
    refine PySem.W.kla_makeFunctionHit (clos := cloFrom X.env.cells sc.names []) (mg := X.mg) (c := c) (P := P) (ps := ps) clo I.ok.glob (I.mod.glob.keeps I.bk) ec (tb.code.keeps I.bk) tP0 tok found bts fun ct h1 tk ext sz => ?_
    have J : Inv X pins σ H { s with heap := h1, toks := tk } := I.kept ext
    exact k h1.objs.size c1 H _ (laid_clo J) (ExtN.refl H) tt (I.hok.fresh sz) co
/-- lambda a, b, ..: e, which captures names of X -/
def tClo (X : Cx) (T : List (Addr × Str)) (prm : Arguments) (bod : Expr) (sc : Scope) : TE := fun _ H Q => Tabs T H ∧ ∀ f c1 H1, ExtN H H1 → Tabs T H1 → H1 f = none → H1 c1 = some (CodeO c1 (X.env.qual ++ "<lambda>")) → Q (.ref f) (upd H1 f (CloO (X.env.qual ++ "<lambda>") prm bod sc (cloFrom X.env.cells sc.names []) c1 f))
theorem pe_clo {T : List (Addr × Str)} {c P : Addr} {prm : Arguments} {bod : Expr} {sc : Scope} {pos : Pos} (tb : TabB X.base X.mg c P) (ec : X.env.code = .ref c) (inT : (P, X.env.qual ++ "<lambda>") ∈ T) (one : ∀ y ∈ T, y.1 = P → y.2 = X.env.qual ++ "<lambda>")
    (nd : defaultsOf prm X.env = ([], [])) (nf : ∀ y ∈ sc.names, y.2 = .free → X.env.scope.names.lookup y.1 = some .cell ∨ X.env.scope.names.lookup y.1 = some .free) : PE X (.Lambda prm bod sc pos) (tClo X T prm bod sc) :=
  ⟨fun pins s σ H Q I h => make_clo I tb ec inT one h.1 nd (fun y m e => I.ok.has _ (nf y m e)) fun f c1 H1 s1 J xt t1 n1 e1 => ⟨.ref f, _, J, rfl, h.2 f c1 H1 xt t1 n1 e1⟩⟩
end
/-! ### its run -/
/-- the captured values, by the closure's cells -/
structure Cels (b : Heap) (sc : Scope) (cl : List (Str × Addr)) (caps : List Str) (cvs : List V) : Prop where
  len : cvs.length = caps.length
  inj : ∀ x y c, cl.lookup x = some c → cl.lookup y = some c → x = y
  all : ∀ x c, cl.lookup x = some c → ∃ o v, b.get? c = some o ∧ o.data = .cell v
  has : ∀ x, sc.names.lookup x = some .free → ∃ c, cl.lookup x = some c
  val : ∀ (i : Nat) x v, caps[i]? = some x → cvs[i]? = some v → ∃ c o u, cl.lookup x = some c ∧ b.get? c = some o ∧ o.data = .cell (some u) ∧ RelV v u
theorem clo_in {cells : List (Str × Addr)} {sc : Scope} (hf : ∀ y ∈ sc.names, y.2 = .free → ∃ c, cells.lookup y.1 = some c) {y : Str} {c : Addr} (e : (cloFrom cells sc.names []).lookup y = some c) : cells.lookup y = some c := by
  rcases cloFrom_mem (PySem.mem_of_lookup e) with hm | ⟨h1, h2⟩
  · cases hm
  · obtain ⟨c1, hc⟩ := hf _ h1 rfl
    have hc : cells.lookup y = some c1 := hc
    have e2 : c = c1 := by
      rw [h2, hc] <;> rfl
    rw [e2]
    exact hc
theorem clo_out {cells : List (Str × Addr)} {sc : Scope} {y : Str} (h : sc.names.lookup y = some .free) : ∃ c, (cloFrom cells sc.names []).lookup y = some c :=
  mem_lookup (cloFrom_has (cells := cells) (acc := []) (PySem.mem_of_lookup h))
/-- slots of X that hold the captured names -/
theorem Cels.of {X : Cx} {σ : L2.St} {b : Heap} {sc : Scope} {caps : List Str} {cvs : List V} (C : CelB X σ b) (fr : ∀ y ∈ sc.names, y.2 = .free → X.env.scope.names.lookup y.1 = some .cell ∨ X.env.scope.names.lookup y.1 = some .free)
    (hc : ∀ x ∈ caps, sc.names.lookup x = some .free) (len : cvs.length = caps.length) (hj : ∀ (i : Nat) x v, caps[i]? = some x → cvs[i]? = some v → ∃ j : Nat, X.N[j]? = some x ∧ σ[j]? = some (some v)) : Cels b sc (cloFrom X.env.cells sc.names []) caps cvs := by
  have hf : ∀ y ∈ sc.names, y.2 = .free → ∃ c, X.env.cells.lookup y.1 = some c := fun y m e => C.has _ (fr y m e)
  refine ⟨len, fun x y c e1 e2 => C.inj x y c (clo_in hf e1) (clo_in hf e2), fun x c e => C.all x c (clo_in hf e), fun x e => clo_out e, fun i x v e1 e2 => ?_⟩
  obtain ⟨j, e3, e4⟩ := hj i x v e1 e2
  have hx := hc x (List.mem_of_getElem? e1)
  obtain ⟨c, o, u, q1, q2, q3, q4⟩ := C.val j x v e3 e4 (fr _ (PySem.mem_of_lookup hx) rfl)
  obtain ⟨c', q5⟩ := clo_out (cells := X.env.cells) hx
  have q6 := clo_in hf q5
  rw [q1] at q6
  cases q6
  exact ⟨c, o, u, q5, q2, q3, q4⟩
abbrev cloEnv (q : Str) (sc : Scope) (L f c : Addr) (cl : List (Str × Addr)) : Env := PySem.W.envX q sc L f (.ref c) cl
/-- the context of the closure's body -/
def cloCx (P : Program) (w : World) (K : PySem.W.Frag) (mg : Str → Option Value) (base : Heap) (N : List Str) (A : Around) (outer : List Env) (s : Shared) (H : Hp) (E : XK) (q : Str) (sc : Scope) (f c : Addr) (cl : List (Str × Addr)) : Cx where
  prog := P
  w := w
  K := K
  mg := mg
  base := base
  A := A.deeper (cloEnv q sc s.heap.objs.size f c cl)
  N := N
  s_0 := s
  H_0 := H
  env := cloEnv q sc s.heap.objs.size f c cl
  outer := outer
  stack := cloEnv q sc s.heap.objs.size f c cl :: outer
  ex := []
  fn := fun _ => false
  calm := true
  pn := []
  xe := fun e s' => wpAny (model P w) (A.deeper (cloEnv q sc s.heap.objs.size f c cl)) (leaving (cloEnv q sc s.heap.objs.size f c cl) e) (fun _ s'' => L2.CX P w outer H s E e s'') (fun e' s'' => L2.CX P w outer H s E e' s'') s'
theorem look_rev : ∀ {ps : List Str} {us : List Value} {i : Nat} {y : Str} {u : Value}, ps.Nodup → ps[i]? = some y → us[i]? = some u → (ps.zip us).reverse.lookup y = some u
  | [], _, _, _, _, _, e, _ => by simp at e
  | p :: ps, [], _, _, _, _, _, e => by simp at e
  | p :: ps, v :: us, i, y, u, nd, e1, e2 => by
    rw [List.zip_cons_cons, List.reverse_cons]
    have app : ∀ (l m : List (Str × Value)) (z : Str), (l ++ m).lookup z = (l.lookup z).or (m.lookup z) := fun l m z => by
      induction l with
      | nil => rfl
      | cons a l ih =>
        obtain ⟨k, v⟩ := a
        rw [List.cons_append, List.lookup_cons, List.lookup_cons]
        cases z == k
        · exact ih
        · rfl
    rw [app]
    cases i with
    | zero =>
      obtain rfl : p = y := Option.some.inj e1
      obtain rfl : v = u := Option.some.inj e2
      have z : (ps.zip us).reverse.lookup p = none := by
        cases h : (ps.zip us).reverse.lookup p with
        | none => rfl
        | some a =>
          have m := PySem.mem_of_lookup h
          exact absurd (List.of_mem_zip (List.mem_reverse.mp m)).1 (List.nodup_cons.mp nd).1
      rw [z]
      simp
    | succ i =>
      have e1 : ps[i]? = some y := e1
      have e2 : us[i]? = some u := e2
      rw [look_rev (List.nodup_cons.mp nd).2 e1 e2]; rfl
structure LmC (P : Program) (w : World) (K : PySem.W.Frag) (mg : Str → Option Value) (base : Heap) (j : Nat) (q : Str) (prm : Arguments) (bod : Expr) (sc : Scope) (ps caps : List Str) (sp : List V → Sp) : Prop where
  kind : sc.kind = .function
  co : sc.isCoroutine = false
  gen : sc.isGenerator = false
  noc : ∀ y ∈ sc.names, y.2 ≠ .cell
  loc : ∀ x ∈ ps, sc.names.lookup x = some .local
  fre : ∀ x ∈ caps, sc.names.lookup x = some .free
  nd : ps.Nodup
  len : ∀ cvs vs H Q E, sp cvs vs H Q E → vs.length = ps.length
  bind : ∀ (us : List Value) (cl : List (Str × Addr)) (pm cv ct : Value), us.length = ps.length → bindArgs (PySem.W.kla_fn "<lambda>" q prm bod sc cl pm cv ct) ⟨us, []⟩ = pure (ps.zip us)
  run : ∀ (cvs : List V) (f c : Addr) (cl : List (Str × Addr)) (A : Around) (outer : List Env) (s : Shared) (H : Hp) (vs : List V) (Q : VK) (E : XK), Room j (A.deeper (cloEnv q sc s.heap.objs.size f c cl)) → cvs.length = caps.length → sp cvs vs H Q E →
    ∃ te, PE (cloCx P w K mg base (ps ++ caps) A outer s H E q sc f c cl) bod te ∧ te ((vs ++ cvs).map some) H Q
section
variable {P : Program} {w : World} {K : PySem.W.Frag} {mg : Str → Option Value} {base : Heap} {j : Nat} {q : Str} {prm : Arguments} {bod : Expr} {sc : Scope} {ps caps : List Str} {sp : List V → Sp}
theorem run_clo (L : LmC P w K mg base j q prm bod sc ps caps sp) {f c : Addr} {cl : List (Str × Addr)} {cvs : List V} {A : Around} {outer : List Env} {s : Shared} {H : Hp} {us : List Value} {vs : List V} {Q : VK} {E : XK} (hr : Room (j + 1) A) (e0 : Env0 P w K mg base A outer s H)
    (ef : H f = some (CloO q prm bod sc cl c f)) (eco : H c = some (CodeO c q)) (C : Cels base sc cl caps cvs) (r : Vals vs us) (z : sp cvs vs H Q E) :
    codeAny (model P w) A (.call (.ref f) ⟨us, []⟩) (CR (L2.CX P w) outer P w H s Q E) s := by
  obtain ⟨⟨pm, ct, gf⟩, _, _⟩ := e0.hok f _ ef
  obtain ⟨⟨oc, fs, t, goc, dat, at1⟩, _, _⟩ := e0.hok c _ eco
  have ln := L.len _ _ _ _ _ z
  have lu : us.length = ps.length := by rw [← r.length]; exact ln
  have lim : s.heap.NoLimit := e0.mod.nolimit.keeps fun b o e => (e0.bs b o e).1
  have nr := hr.deeper (cloEnv q sc s.heap.objs.size f c cl)
  refine PySem.W.kla_callFunE hr.depth gf rfl L.co L.gen rfl ⟨c, oc, fs, t, rfl, goc, dat, at1⟩ ?_
  rw [L.bind us cl _ _ _ lu]
  refine wpAny_pure (wpAny_newFunctionEnv L.noc (fun y hy => L.loc _ (List.of_mem_zip hy).1) (fun h₁ hns hsb => ⟨lim.fresh _ hsb, ?_⟩) L.kind)
  show codeAny _ _ (.expr bod (cloEnv q sc s.heap.objs.size f c cl)) _ _
  have kp : ∀ b o, s.heap.get? b = some o → h₁.get? b = some o := fun b o e => hsb.extBut b o (Nat.ne_of_lt (Heap.lt_size e)) (Heap.get?_push_of_some _ e)
  obtain ⟨te, pe, hq⟩ := L.run cvs f c cl A outer s H vs Q E nr C.len z
  have noA : ∀ b : Addr, b ∉ (cloCx P w K mg base (ps ++ caps) A outer s H E q sc f c cl).ex := fun b z => absurd (show b ∈ ([] : List Addr) from z) (by simp)
  have J : Inv (cloCx P w K mg base (ps ++ caps) A outer s H E q sc f c cl) [] ((vs ++ cvs).map some) H { s with heap := h₁, toks := s.toks + (ps.zip us).length } := by
    refine ⟨⟨e0.mod, L.kind, rfl, rfl, Nat.le_refl _, C.inj, fun y hy => ?_, fun y c z _ => ?_, fun _ => hr.hd, Around.frames_deeper e0.frames, .inr ⟨rfl, rfl⟩, fun b z => absurd z (noA b), e0.bs, e0.bsz, fun b _ _ => noA b, fun b z => absurd z (noA b), e0.funs, e0.frf⟩,
      rfl, e0.bare, Un.kept kp, ⟨_, hns, fun i y v e1 e2 e3 => ?_⟩, fun y c e => ?_, e0.hok.fresh (Nat.le_refl _), fun y c e => ?_, fun q hq => absurd (show q ∈ ([] : List (Addr × Obj)) ++ [] from hq) (by simp), e0.hok.kept kp, ?_⟩
    · have hy : sc.names.lookup y = some .cell ∨ sc.names.lookup y = some .free := hy
      rcases hy with hy | hy
      · exact absurd rfl (L.noc _ (PySem.mem_of_lookup hy))
      · exact C.has y hy
    · have z : false = true := z
      cases z
    · have e1 : (ps ++ caps)[i]? = some y := e1
      rw [List.getElem?_map] at e2
      obtain ⟨v', e4, e5⟩ := Option.map_eq_some_iff.mp e2
      cases e5
      by_cases hi : i < ps.length
      · rw [List.getElem?_append_left hi] at e1
        rw [List.getElem?_append_left (by omega)] at e4
        obtain ⟨u, hu, rv⟩ := r.get e4
        exact ⟨u, rv, .inl ⟨L.loc y (List.mem_of_getElem? e1), look_rev L.nd e1 hu⟩⟩
      · rw [List.getElem?_append_right (by omega)] at e1
        rw [List.getElem?_append_right (by omega), ln] at e4
        obtain ⟨c1, o, u, q1, q2, q3, q4⟩ := C.val _ _ _ e1 e4
        exact ⟨u, q4, .inr ⟨.inr (L.fre y (List.mem_of_getElem? e1)), c1, q1, o, kp _ _ (e0.bs _ _ q2).1, q3⟩⟩
    · obtain ⟨o, v, q1, q2⟩ := C.all y c e
      exact ⟨v, o, kp _ _ (e0.bs _ _ q1).1, q2⟩
    · obtain ⟨o, v, q1, q2⟩ := C.all y c e
      exact (e0.bs _ _ q1).2
    · show ((vs ++ cvs).map some).length = (ps ++ caps).length
      rw [List.length_map, List.length_append, List.length_append, ln, C.len]
  refine PySem.W.kla_codeExpr (wpAny_mono (pe.run [] _ _ H Q J hq) (fun v s' hq => ?_) fun e s' hq => hq)
  obtain ⟨w', H', J', rv, q⟩ := hq
  exact ⟨w', H', J'.os, J'.bare, J'.base, J'.hok, rv, q⟩
end
/-! ### a value that may be called -/
structure CallV (P : Program) (w : World) (K : PySem.W.Frag) (mg : Str → Option Value) (base : Heap) (lv : Nat) (sp : Sp) (H : Hp) (f : Addr) : Prop where
  ex : ∃ fs : List (Addr × HO), (∀ p ∈ fs, H p.1 = some p.2 ∧ ∃ φ, p.2 = .ext φ) ∧ (∀ A outer s H', Env0 P w K mg base A outer s H' → (∀ p ∈ fs, H' p.1 = some p.2) → PySem.W.FnAt f s.heap) ∧
    ∀ (A : Around) (outer : List Env) (s : Shared) (H' : Hp) (us : List Value) (vs : List V) (Q : VK) (E : XK), Room lv A → Env0 P w K mg base A outer s H' → (∀ p ∈ fs, H' p.1 = some p.2) → Vals vs us → sp vs H' Q E → codeAny (model P w) A (.call (.ref f) ⟨us, []⟩) (CR (L2.CX P w) outer P w H' s Q E) s
section
variable {P : Program} {w : World} {K : PySem.W.Frag} {mg : Str → Option Value} {base : Heap} {lv j : Nat} {H H' : Hp} {f c : Addr}
theorem CallV.keep {sp : Sp} (V : CallV P w K mg base lv sp H f) (k : ∀ b φ, H b = some (.ext φ) → H' b = some (.ext φ)) : CallV P w K mg base lv sp H' f := by
  obtain ⟨fs, h1, h2, h3⟩ := V
  refine ⟨fs, fun p m => ?_, h2, h3⟩
  obtain ⟨e, φ, z⟩ := h1 p m
  rw [z] at e ⊢
  exact ⟨k _ _ e, φ, rfl⟩
theorem CallV.same {sp : Sp} (V : CallV P w K mg base lv sp H f) (s : Same H H') : CallV P w K mg base lv sp H' f := V.keep fun b φ e => s _ _ e
theorem CallV.imp {sp sp' : Sp} (V : CallV P w K mg base lv sp H f) (h : ∀ vs H Q E, sp' vs H Q E → sp vs H Q E) : CallV P w K mg base lv sp' H f :=
  let ⟨fs, h1, h2, h3⟩ := V
  ⟨fs, h1, h2, fun A outer s H' us vs Q E hr e0 ef r z => h3 A outer s H' us vs Q E hr e0 ef r (h _ _ _ _ z)⟩
theorem CallV.clo {q : Str} {prm : Arguments} {bod : Expr} {sc : Scope} {ps caps : List Str} {sp : List V → Sp} {cl : List (Str × Addr)} {cvs : List V} (L : LmC P w K mg base j q prm bod sc ps caps sp) (C : Cels base sc cl caps cvs) (ef : H f = some (CloO q prm bod sc cl c f)) (eco : H c = some (CodeO c q)) (jl : j + 1 ≤ lv) : CallV P w K mg base lv (sp cvs) H f := by
  refine ⟨[(f, CloO q prm bod sc cl c f), (c, CodeO c q)], fun p m => ?_, fun A outer s H' e0 ek => ?_, fun A outer s H' us vs Q E hr e0 ek r z => ?_⟩
  · rcases List.mem_cons.mp m with rfl | m
    · exact ⟨ef, _, rfl⟩
    · rw [List.mem_singleton.mp m]; exact ⟨eco, _, rfl⟩
  · have e1 := ek _ (.head _)
    obtain ⟨⟨pm, ct, g⟩, _, _⟩ := e0.hok f _ e1
    exact ⟨_, _, _, _, g⟩
  · exact run_clo L (hr.mono jl) e0 (ek _ (.head _)) (ek _ (.tail _ (.head _))) C r z
end
/-- a(e, ..), a a name that holds such a value -/
def tVarV (P : Program) (w : World) (K : PySem.W.Frag) (mg : Str → Option Value) (base : Heap) (lv i : Nat) (sp : Sp) (E : L2.St → XK) (ta : TA) : TE := fun σ H Q => ∃ f, σ[i]? = some (some (.ref f)) ∧ CallV P w K mg base lv sp H f ∧ ta σ H fun vs H1 => CallV P w K mg base lv sp H1 f ∧ sp vs H1 Q (E σ)
theorem pe_varV {X : Cx} {a : Str} {lv i : Nat} {sp : Sp} {E : L2.St → XK} {p pos : Pos} {e : Expr} {es : List Expr} {ta : TA} (nm : X.N[i]? = some a) (vis : Vis X.env.scope a) (hr : Room lv X.A) (hx : ∀ σ, PassesAt (L2.CX X.prog X.w) X σ (E σ)) (ha : PA X (e :: es) ta)
    (d1 : (a == ("__debug__" : Str)) = false := by decide) (d2 : (a == ("__classdict__" : Str)) = false := by decide)
    (se : starEach (e :: es) X.env = (false, eval e X.env) :: starEach es X.env := by rfl) (spl : (backTo pos (starEach es X.env)).any (·.1) = false := by rfl) :
    PE X (.Call (.Name a p) (e :: es) [] pos) (tVarV X.prog X.w X.K X.mg X.base lv i sp E ta) := by
  refine ⟨fun pins s σ H Q I h => ?_⟩
  obtain ⟨f, ef, ⟨fs, k1, k2, k3⟩, h⟩ := h
  refine wpAny_Call_Name_kw (thn ((pe_var (pos := p) (i := i) nm vis d1 d2).run pins s σ H (fun v H1 => v = .ref f ∧ H1 = H) I ⟨.ref f, ef, rfl, rfl⟩) fun u s1 ⟨v, H1, I1, r1, ev, eH⟩ => ?_)
  subst ev eH
  obtain rfl : u = Value.ref f := r1
  refine PySem.W.callWith_F (k2 _ _ _ _ I1.env0 fun p m => (k1 p m).1) (thn (ha.run pos pins s1 σ H1 _ I1 h) fun us s2 ⟨vs, H2, I2, r2, ⟨gs, g1, g2, g3⟩, q2⟩ => ⟨g2 _ _ _ _ I2.env0 fun p m => (g1 p m).1, ?_⟩) se spl
  refine wpAny_call (codeAny_mono (g3 _ _ _ _ us vs _ _ hr I2.env0 (fun p m => (g1 p m).1) r2 q2) fun r s3 hq => ?_)
  cases r with
  | error er => exact hx σ pins H2 s2 er s3 I2 hq
  | ok fl =>
    cases fl with
    | ret u => exact I2.after hq
    | next => exact False.elim hq
    | brk => exact False.elim hq
    | cont => exact False.elim hq
/-! ### a def that gets such a value -/
structure Ho (P : Program) (w : World) (K : PySem.W.Frag) (mg : Str → Option Value) (base : Heap) (CX : CXT) (x : Str) (ps : List Str) (lv : Nat) (sp : Heap → Sp) : Prop where
  ex : ∃ (f : Addr) (fd : FuncData), (∀ base', LeB K mg base base' → FnOk P w K mg base' CX lv f fd ps (sp base')) ∧ mg x = some (.ref f) ∧ PySem.W.keepIn K (.ref f) = true ∧ Binds K fd ps []
def tHo (X : Cx) (sp : Heap → Sp) (E : XK) (ta : TA) : TE := fun σ H Q => ta σ H fun vs H1 => ∀ b, LeB X.K X.mg X.base b → CelB X σ b → sp b vs H1 Q E
theorem pe_ho {X : Cx} {CX : CXT} {ps : List Str} {lv : Nat} {sp : Heap → Sp} {E : XK} {x : Str} {p pos : Pos} {e : Expr} {es : List Expr} {t : TA} (C : Ho X.prog X.w X.K X.mg X.base CX x ps lv sp) (hfn : ∀ x, X.fn x = true) (hr : Room lv X.A) (hx : Passes CX X E) (hg : Gl X x) (ha : PA X (e :: es) t) (hdb : (x == ("__debug__" : Str)) = false := by decide)
    (he : starEach (e :: es) X.env = (false, eval e X.env) :: starEach es X.env := by rfl) (hpl : (backTo pos (starEach es X.env)).any (·.1) = false := by rfl) : PE X (.Call (.Name x p) (e :: es) [] pos) (tHo X sp E t) := by
  obtain ⟨f, fd, F, hm, hk, hb⟩ := C.ex
  refine ⟨fun pins s σ H Q I h => ?_⟩
  refine wpAny_Call_Name_kw (ld_glob I hg hm ?_ hdb)
  refine PySem.W.callWith_K (h₀ := X.base) I.ok.mod.kin hk (thn (ha.run pos pins s σ H _ I h) fun us s1 ⟨vs, H1, I1, r, q⟩ => ⟨I1.kIn, ?_⟩) he hpl
  have le := le_hid I1
  have z := q _ le (celB_hid I1 hfn)
  have FF := F _ le
  have hl : us.length = ps.length := by rw [← r.length]; exact FF.len _ _ _ _ z
  have bb := hb s1 us I1.kIn (by rw [List.append_nil]; exact hl)
  rw [List.append_nil] at bb
  refine wpAny_call (codeAny_mono (FF.run X.A X.stack s1 H1 ⟨us, []⟩ us vs Q E hr (env0_hid I1) bb r z) fun r s' hq => ?_)
  cases r with
  | error e => exact hx pins σ H1 s1 e s' I1 hq
  | ok fl =>
    cases fl with
    | ret u => exact I1.after hq
    | next => exact False.elim hq
    | brk => exact False.elim hq
    | cont => exact False.elim hq
end Cq

/-! sorted(xs, key=f), f a function value whose keys read as data -/
namespace PySem.W
open PySem PySem.Calls PyProof.Rows
section
variable {prog : Program} {w : World} {A : Around} {E : Value → Shared → Prop} {s : Shared} {a kS : Addr} {b : Bool} {vs : List Value} {keys : Array Value} {e e1 : Nat} {P : PySem.Fin → Shared → Prop}
theorem key_tailN {st : SortSt} {out : List Value} (nk : s.heap.get? kS = some (seqObj "list" keys e)) (na : s.heap.get? a = some (seqObj "list" #[] e1)) (hka : kS ≠ a)
    (hsz : keys.size ≤ sizeLine) (hz : out.length ≤ sizeLine) (hfl : failedOf st = none) (ho : (if b = true then ((arrOf st).map (·.2)).reverse else (arrOf st).map (·.2)) = out.toArray)
    (h : ∀ h' tk c, h'.get? a = some (seqObj "list" out.toArray c) → (∀ d o, d ≠ a → d ≠ kS → s.heap.get? d = some o → h'.get? d = some o) → (∃ o, h'.get? kS = some o) → P (.done (.ret .none)) { s with heap := h', toks := tk }) :
    wpAny (model prog w) A (ksk_tail a b e1 (.ref kS) st) P E s := by
  have s1 := Heap.SameBut.update s.heap kS (Obj.mapSeq fun _ => (#[] : Array Value))
  have na1 : (s.heap.update kS (Obj.mapSeq fun _ => (#[] : Array Value))).get? a = some (seqObj "list" #[] e1) := (s1.2 a hka.symm).trans na
  have s2 := Heap.SameBut.update (s.heap.update kS (Obj.mapSeq fun _ => (#[] : Array Value))) a (Obj.mapSeq fun _ => out.toArray)
  obtain ⟨c2, hc2⟩ : ∃ c2, ((s.heap.update kS (Obj.mapSeq fun _ => (#[] : Array Value))).update a (Obj.mapSeq fun _ => out.toArray)).get? a = some (seqObj "list" out.toArray c2) :=
    ⟨_, get?_update_seq na1 fun _ => out.toArray⟩
  obtain ⟨c3, hc3⟩ : ∃ c3, (s.heap.update kS (Obj.mapSeq fun _ => (#[] : Array Value))).get? kS = some (seqObj "list" #[] c3) := ⟨_, get?_update_seq nk fun _ => #[]⟩
  have hz2 : out.toArray.size ≤ sizeLine + 1 := by
    rw [List.size_toArray]
    exact Nat.le_succ_of_le hz
  unfold ksk_tail
  try dsimp only
  rw [ho]
  refine wpAny_bind (listUpdate_at nk rfl ?_ hsz (Nat.zero_le _))
  refine wpAny_bind (wpAny_letGo ?_)
  refine wpAny_bind (seqEpoch_at na1 rfl ?_)
  refine wpAny_bind (listUpdate_at na1 rfl ?_ (Nat.zero_le _) hz2)
  rw [hfl]
  simp only [bne_self_eq_false, Bool.false_eq_true, if_false]
  exact wpAny_pure (h _ _ c2 hc2 (fun d o h1 h2 q => (s2.2 d h1).trans ((s1.2 d h2).trans q)) ⟨_, (s2.2 kS hka).trans hc3⟩)
theorem key_endN {κ : PyProof.Rows.KeyKind} (nk : s.heap.get? kS = some (seqObj "list" keys e)) (na : s.heap.get? a = some (seqObj "list" #[] e1)) (hka : kS ≠ a)
    (S : SortsAt prog w A s κ keys.toList) (hsz : keys.size = vs.length) (hZ : vs.length ≤ sizeLine)
    (h : ∀ h' tk c, h'.get? a = some (seqObj "list" (sortVals κ b keys.toList vs).toArray c) → (∀ d o, d ≠ a → d ≠ kS → s.heap.get? d = some o → h'.get? d = some o) → (∃ o, h'.get? kS = some o) → P (.done (.ret .none)) { s with heap := h', toks := tk }) :
    wpAny (model prog w) A (ksk_end a b vs.toArray e1 (.ref kS) keys) P E s := by
  obtain ⟨kd, h1, h2⟩ := S.kind
  have hkl : keys.toList.length = vs.length := by
    rw [Array.length_toList]
    exact hsz
  have hK : PyProof.Rows.KeysOf κ (keys.zip vs.toArray) := keysOf_zip S.keys
  have hol : (sortVals κ b keys.toList vs).length = vs.length := sortVals_length b hkl
  have hstart : (if b = true then (keys.zip vs.toArray).reverse else keys.zip vs.toArray).Perm (keys.zip vs.toArray) := by
    cases b with
    | false => exact Array.Perm.refl _
    | true => exact Array.perm_iff_toList_perm.mpr (by rw [if_pos rfl, Array.toList_reverse]; exact List.reverse_perm _)
  have hss : (if b = true then (keys.zip vs.toArray).reverse else keys.zip vs.toArray).size = vs.length := by rw [hstart.size_eq, Array.size_zip, hsz, List.size_toArray, Nat.min_self]
  have fin : ∀ st' : SortSt, (arrOf st').Perm (if b = true then (keys.zip vs.toArray).reverse else keys.zip vs.toArray) → SortedToK κ (arrOf st') (if b = true then (keys.zip vs.toArray).reverse else keys.zip vs.toArray).size →
      Stable κ (arrOf st') (if b = true then (keys.zip vs.toArray).reverse else keys.zip vs.toArray) → (if b = true then ((arrOf st').map (·.2)).reverse else (arrOf st').map (·.2)) = (sortVals κ b keys.toList vs).toArray := by
    intro st' hp hs ht
    have e := sort_out (rev := b) (keys := keys) (items := vs.toArray) (xs := arrOf st') (κ := κ) hK hp hs ht
    have e' := congrArg List.toArray e
    rw [Array.toArray_toList] at e'
    exact e'
  have step : ∀ t : Sem PySem.Fin, wpAny (model prog w) A t P E s → wpAny (model prog w) A (if b = true then (do let _ ← rule "list.sort.reverse"; t) else t) P E s := by
    intro t ht
    split
    · exact wpAny_bind (wpAny_rule ht)
    · exact ht
  unfold ksk_end
  try dsimp only
  refine step _ ?_
  by_cases hl2 : vs.toArray.size < 2
  · rw [if_pos hl2, if_pos hl2]
    refine wpAny_bind (wpAny_pure ?_)
    rw [StateT.run_pure]
    refine wpAny_bind (wpAny_pure ?_)
    try dsimp only
    refine key_tailN (st := SortSt.mk' general' (if b = true then (keys.zip vs.toArray).reverse else keys.zip vs.toArray) #[] 7 none) nk na hka (by rw [hsz]; exact hZ) (by rw [hol]; exact hZ) rfl (fin _ (Array.Perm.refl _) ?_ (Stable.refl _)) h
    intro i j hij hj
    rw [hss] at hj
    rw [List.size_toArray] at hl2
    have : i = j := by omega
    subst this
    exact KeyOrd.kle_refl _
  · rw [if_neg hl2, if_neg hl2]
    rw [List.size_toArray] at hl2
    refine wpAny_bind (h2 (by omega) _ ?_)
    refine wpAny_bind (wpAny_mono (H.wpS_sortRunsSt (κ := κ) (kd := kd) (a₀ := if b = true then (keys.zip vs.toArray).reverse else keys.zip vs.toArray)
      (st := SortSt.mk' kd (if b = true then (keys.zip vs.toArray).reverse else keys.zip vs.toArray) #[] 7 none)
      (Q := fun _ st' => failedOf st' = none ∧ (if b = true then ((arrOf st').map (·.2)).reverse else (arrOf st').map (·.2)) = (sortVals κ b keys.toList vs).toArray)
      h1 (hK.perm hstart) ⟨Array.Perm.refl _, rfl, rfl⟩ rfl (Stable.refl _) (by rw [hss]; omega) fun st' a1 a2 a3 a4 => ⟨a2, fin st' a1 a3 a4⟩) ?_ fun _ _ e => e)
    rintro ⟨⟨⟩, st'⟩ s' ⟨rfl, hf, ho⟩
    try dsimp only at ho ⊢
    exact key_tailN nk na hka (by rw [hsz]; exact hZ) (by rw [hol]; exact hZ) hf ho h
end
end PySem.W
namespace Sk
open PySem PySem.Spec PyProof.Rows L2 Hb Lp Cq PySem.W Sq
mutual
theorem dp_sm {K : PySem.W.Frag} {H H' : Hp} (s : Same H H') : ∀ {d : PyData} {v : V}, Dp K H v d → Dp K H' v d
  | _, _, .non => .non
  | _, _, .bl b => .bl b
  | _, _, .int i => .int i
  | _, _, .str x => .str x
  | _, _, .lst h a => .lst (lstSame s h) (dpa_sm s a)
  | _, _, .tup h a => .tup (tupFix (Fix.of s) h) (dpa_sm s a)
theorem dpa_sm {K : PySem.W.Frag} {H H' : Hp} (s : Same H H') : ∀ {ds : List PyData} {xs : List V}, DpAll K H xs ds → DpAll K H' xs ds
  | _, _, .nil => .nil
  | _, _, .cons h t => .cons (dp_sm s h) (dpa_sm s t)
end
/-- sorted(xs, key=f) -/
def rSortK (P : Program) (w : World) (K : PySem.W.Frag) (mg : Str → Option Value) (base : Heap) (lv : Nat) (spf : Sp) : List V → List V → Hp → VK → Prop := fun vs zs H Q => ∃ (a f : Addr) (bs : List (V × PyData)), vs = [V.ref a] ∧ zs = [V.ref f] ∧ SqL K H a (bs.map (·.1)) ∧ CallV P w K mg base lv spf H f ∧
  AllAlike (bs.map (·.2)) ∧ (Sortable (bs.map (·.2)) ∨ Tup0 (bs.map (·.2))) ∧ (∀ b ∈ bs, b.2.depth ≤ 20) ∧ (∀ b ∈ bs, ∀ H', Same H H' → spf [b.1] H' (fun k H'' => Same H' H'' ∧ Dp K H'' k b.2) fun _ _ _ => False) ∧
  ∀ p H', Same H H' → H' p = some (.lst ((bs.mergeSort (dataLe false (·.2))).map (·.1))) → Q (.ref p) H'
section
variable {P : Program} {w : World}
theorem un_out {fs : List Addr} {H H' : Hp} {h g g' : Heap} {kS : Addr} (u : Un fs [] H H' h g) (hk : h.objs.size ≤ kS) (k : ∀ b o, b ≠ kS → g.get? b = some o → g'.get? b = some o) : Un fs [] H H' h g' :=
  have ne : ∀ {b : Addr} {o : Obj}, h.get? b = some o → b ≠ kS := fun q => Nat.ne_of_lt (Nat.lt_of_lt_of_le (Heap.lt_size q) hk)
  ⟨fun b o q n m x => k b o (ne q) (u.keep b o q n m x), fun b o q n m x => let ⟨sl, e⟩ := u.slot b o q n m x; ⟨sl, k b _ (ne q) e⟩, u.free, fun b o q x => let ⟨o', e⟩ := u.there b o q x; ⟨o', k b o' (ne q) e⟩, u.tups, u.frzs, u.tbls⟩
theorem hok_out {H : Hp} {g g' : Heap} {kS : Addr} (ok : HOk P w H g) (n : H kS = none) (k : ∀ b o, b ≠ kS → g.get? b = some o → g'.get? b = some o) : HOk P w H g' := fun b u e =>
  (ok b u e).stay (fun d v hd q => k d v (fun z => by
    rcases hd with y | y
    · rw [← y, z, n] at e; cases e
    · rw [z, n] at y; cases y) q) (fun _ e => e) (fun _ _ e => e)
end
section
variable {X : Cx}
theorem all2_snoc {α β : Type} {R : α → β → Prop} {x : α} {y : β} (h : R x y) : ∀ {xs : List α} {ys : List β}, All2 R xs ys → All2 R (xs ++ [x]) (ys ++ [y])
  | _, _, .nil => .cons h .nil
  | _, _, .cons a t => .cons a (all2_snoc h t)
theorem vals_snoc {x : V} {u : Value} (h : RelV x u) : ∀ {xs : List V} {us : List Value}, Vals xs us → Vals (xs ++ [x]) (us ++ [u])
  | _, _, .nil => .cons h .nil
  | _, _, .cons a t => .cons a (vals_snoc h t)
theorem each_reads {pins : List (Addr × Obj)} {σ : L2.St} {H : Hp} {s : Shared} (I : Inv X pins σ H s) : ∀ {ks : List V} {us : List Value} {bs : List (V × PyData)}, Vals ks us → All2 (fun k b => Dp X.K H k b.2) ks bs → EachIs (fun v d => ∃ as, Reads s.heap v d as) us (bs.map (·.2))
  | _, _, _, .nil, .nil => .nil
  | _, _, _, .cons r t, .cons d u => .cons (Dp.reads I _ _ _ d r) (each_reads I t u)
theorem each_map2 {R : Value → V × PyData → Prop} : ∀ {us : List Value} {bs : List (V × PyData)}, EachIs R us bs → EachIs (fun v b => R v b) us bs := fun h => h
theorem cr_sortK {lv : Nat} {spf : Sp} (hr : Room (lv + 2) X.A) (hu : X.A.units + 64 < cLine) : CallRK X (.builtin "sorted") [Str.ofString "key"] (rSortK X.prog X.w X.K X.mg X.base lv spf) := by
  intro pins s σ H vs zs us ws Q I r rz h
  obtain ⟨a, f, bs, rfl, rfl, hs, V0, hal, hk, hd, turn, q⟩ := h
  obtain ⟨its, rv, hL, hz⟩ := I.list hs
  obtain ⟨u, rfl, ru⟩ := vals1 r
  obtain rfl : u = Value.ref a := ru
  obtain ⟨w1, rfl, e1⟩ := vals1 rz
  obtain rfl : w1 = Value.ref f := e1
  have li : its.length = bs.length := by rw [← rv.length, List.length_map]
  have hZ : its.length ≤ sizeLine := by rw [← rv.length]; exact hz
  show wpAny _ _ (call (.builtin "sorted") [.ref a] [(Str.ofString "key", .ref f)]) _ _ _
  refine sorted_of_sort hL.isList hZ (ksk_s1 _ _) (fun _ => ksk_l1 _ _) fun E' => ?_
  rw [ksk_t1]
  -- the work's own objects
  obtain ⟨n, hn⟩ : ∃ n, s.heap.objs.size = n := ⟨_, rfl⟩
  have ho := copyHeap_at s.heap its
  rw [hn] at ho ⊢
  have ha : n + 1 < (copyHeap s.heap its).objs.size := Heap.lt_size ho
  obtain ⟨e1, ho1⟩ : ∃ e1, ((copyHeap s.heap its).update (n + 1) (Obj.mapSeq fun _ => (#[] : Array Value))).get? (n + 1) = some (seqObj "list" #[] e1) := ⟨_, get?_update_seq ho fun _ => #[]⟩
  obtain ⟨kS, hkS⟩ : ∃ kS, (((copyHeap s.heap its).update (n + 1) (Obj.mapSeq fun _ => (#[] : Array Value))).push (seqObj "tuple" its.toArray 0)).objs.size = kS := ⟨_, rfl⟩
  have kSn : n + 1 < kS := by rw [← hkS, size_push', Heap.size_update]; omega
  have fr : ∀ b, n ≤ b → b ∉ frs X.stack := fun b hb m => by
    obtain ⟨_, o, e, _⟩ := I.stack.mem m
    have h1 : (b : Nat) < s.heap.objs.size := Heap.lt_size e
    have h2 : (n : Nat) ≤ b := hb
    omega
  have fN : ∀ b, n ≤ b → H b = none := fun b hb => I.hok.fresh (by rw [hn]; exact hb)
  unfold ksk_tree
  refine wpAny_bind (listItems_at ho rfl ?_)
  refine wpAny_bind (listUpdate_at ho rfl ?_ (by rw [List.size_toArray]; exact hZ) (Nat.zero_le _))
  refine wpAny_bind (seqEpoch_at ho1 rfl ?_)
  refine wpAny_bind (wpAny_newTuple ?_ (by show its.length ≤ _; exact hZ))
  refine wpAny_bind (wpAny_newList ?_ (Nat.zero_le _))
  refine wpAny_holding ?_
  rw [hkS]
  have old : ∀ b o, s.heap.get? b = some o → ((((copyHeap s.heap its).update (n + 1) (Obj.mapSeq fun _ => (#[] : Array Value))).push (seqObj "tuple" its.toArray 0)).push (seqObj "list" #[] 0)).get? b = some o := fun b o e => by
    have := sorting_copy_old (vs := its) e
    rw [hn] at this
    exact this
  have g0 : ((((copyHeap s.heap its).update (n + 1) (Obj.mapSeq fun _ => (#[] : Array Value))).push (seqObj "tuple" its.toArray 0)).push (seqObj "list" #[] 0)).get? kS = some (seqObj "list" #[] 0) := by rw [← hkS]; exact Heap.get?_push_size _ rfl
  have g1 : ((((copyHeap s.heap its).update (n + 1) (Obj.mapSeq fun _ => (#[] : Array Value))).push (seqObj "tuple" its.toArray 0)).push (seqObj "list" #[] 0)).get? (n + 1) = some (seqObj "list" #[] e1) := Heap.get?_push_of_some _ (Heap.get?_push_of_some _ ho1)
  generalize ((((copyHeap s.heap its).update (n + 1) (Obj.mapSeq fun _ => (#[] : Array Value))).push (seqObj "tuple" its.toArray 0)).push (seqObj "list" #[] 0)) = hp at old g0 g1 ⊢
  clear ho ho1 ha hkS
  unfold ksk_rest
  refine wpAny_bind (wpAny_rule ?_)
  first
    | rw [List.forIn_toArray]
    | (rw [← Array.forIn_toList]; simp only [List.toList_toArray])
    | rw [← Array.forIn_toList]
  refine wpAny_bind (ksk_fold (fun i s' => ∃ (H' : Hp) (kA : Array Value) (e : Nat) (kv : List V), s'.os = s.os ∧ AllBare s'.gens ∧ Un (frs X.stack) [] H H' s.heap s'.heap ∧ HOk X.prog X.w H' s'.heap ∧ Same H H' ∧ H' (n + 1) = none ∧ H' kS = none ∧
      s'.heap.get? (n + 1) = some (seqObj "list" #[] e1) ∧ s'.heap.get? kS = some (seqObj "list" kA e) ∧ Vals kv kA.toList ∧ All2 (fun k b => Dp X.K H' k b.2) kv (bs.take i)) its 0 _
    ⟨H, #[], 0, [], rfl, I.bare, Un.kept old, I.hok.kept old, Same.refl _, fN _ (by omega), fN _ (by omega), g1, g0, .nil, by rw [List.take_zero]; exact .nil⟩ ?step ?done)
  case step =>
    rintro j x s' hx ⟨H', kA, e, kv, os, bare, un, hok, sm, na, nk, ga, gk, rk, al⟩
    simp only [Nat.zero_add] at al ⊢
    have hj : j < its.length := (List.getElem?_eq_some_iff.mp hx).1
    obtain ⟨b, hb⟩ : ∃ b, bs[j]? = some b := ⟨_, List.getElem?_eq_getElem (by omega)⟩
    have J := I.call' os un hok bare (fun b z => absurd z (by simp))
    obtain ⟨fs, k1, k2, k3⟩ := V0.same sm
    obtain ⟨u, hu', ru⟩ := rv.get (i := j) (x := b.1) (by rw [List.getElem?_map, hb]; rfl)
    rw [hx] at hu'
    obtain rfl : x = u := Option.some.inj hu'
    have sz : kA.size ≤ its.length := by
      have h1 : kv.length = kA.toList.length := rk.length
      have h2 : kv.length = (bs.take j).length := al.len
      have h3 : kA.toList.length = kA.size := Array.length_toList
      rw [List.length_take] at h2
      omega
    have kne : kS ≠ n + 1 := by omega
    refine wpAny_bind (wpAny_attempt ?_)
    refine wpAny_call (codeAny_mono (k3 _ X.stack s' H' [x] [b.1] _ _ ((show Room (lv + 1 + 1) X.A from hr).in1.in1) J.env0.in1.in1 (fun p m => (k1 p m).1) (.cons ru .nil) (turn b (List.mem_of_getElem? hb) H' sm)) fun r s2 hq => ?_)
    cases r with
    | error er =>
      obtain ⟨_, _, _, _, _, _, _, _, _, _, _, _, z⟩ := hq
      exact z.elim
    | ok fl =>
      cases fl with
      | next => exact False.elim hq
      | brk => exact False.elim hq
      | cont => exact False.elim hq
      | ret v =>
        obtain ⟨k, H2, os2, bare2, un2, hok2, rv2, sm2, dk⟩ := hq
        have gk2 := un2.keep _ _ gk nk (fr _ (by omega)) (by simp)
        have ga2 := un2.keep _ _ ga na (fr _ (by omega)) (by simp)
        have nk2 := un2.free _ _ gk nk (by simp)
        have na2 := un2.free _ _ ga na (by simp)
        have s1 := Heap.SameBut.update s2.heap kS (Obj.mapSeq (·.push v))
        obtain ⟨c2, hc2⟩ : ∃ c2, (s2.heap.update kS (Obj.mapSeq (·.push v))).get? kS = some (seqObj "list" (kA.push v) c2) := ⟨_, get?_update_seq gk2 (·.push v)⟩
        have kp : ∀ b o, b ≠ kS → s2.heap.get? b = some o → (s2.heap.update kS (Obj.mapSeq (·.push v))).get? b = some o := fun b o h e => (s1.2 b h).trans e
        try dsimp only
        refine wpAny_bind (listUpdate_at gk2 rfl ?_ (Nat.le_trans sz hZ) (Nat.le_trans (Nat.le_of_eq (Array.size_push ..)) (Nat.succ_le_succ (Nat.le_trans sz hZ))))
        refine wpAny_pure ⟨rfl, H2, kA.push v, c2, kv ++ [k], os2.trans os, bare2, un_out (un.trans un2) (by rw [hn]; omega) kp, hok_out hok2 nk2 kp, sm.trans sm2, na2, nk2, (s1.2 _ kne.symm).trans ga2, hc2, ?_, ?_⟩
        · rw [Array.toList_push]; exact vals_snoc rv2 rk
        · rw [List.take_add_one, hb]
          exact all2_snoc (R := fun k (b : V × PyData) => Dp X.K H2 k b.2) dk (al.imp fun _ _ d => dp_sm sm2 d)
  case done =>
    rintro s' ⟨H', kA, e, kv, os, bare, un, hok, sm, na, nk, ga, gk, rk, al⟩
    rw [Nat.zero_add, li, List.take_length] at al
    have J := I.call' os un hok bare (fun b z => absurd z (by simp))
    have er := each_reads J rk al
    have hsz : kA.size = its.length := by
      have h1 : kv.length = kA.toList.length := rk.length
      have h2 : kv.length = bs.length := al.len
      have h3 : kA.toList.length = kA.size := Array.length_toList
      omega
    have kne : kS ≠ n + 1 := by omega
    have bd : ∀ d, d ∈ bs.map (·.2) → X.A.in1.in1.units + d.depth < cLine := fun d m => by
      obtain ⟨b, mb, rfl⟩ := List.mem_map.mp m
      have h1 : (b.2.depth : Nat) ≤ 20 := hd b mb
      have h2 : (X.A.units : Nat) + 64 < cLine := hu
      show (X.A.units + 1 + 1 + b.2.depth : Nat) < cLine
      omega
    have S : SortsAt X.prog X.w X.A.in1.in1 s' (dataKind s'.heap (bs.map (·.2))) kA.toList := by
      rcases hk with hk | hk
      · exact SortsAt.data er hal hk bd
      · exact SortsAt.tup0 er hal hk bd
    try dsimp only
    refine wpAny_bind (listItems_at gk rfl ?_)
    refine key_endN (κ := dataKind s'.heap (bs.map (·.2))) gk ga kne S hsz hZ fun h3 tk3 c g3 k3 t3 => ⟨rfl, ?_⟩
    -- the end
    have eo : EachIs (fun u b => RelV b.1 u) (sortVals (dataKind s'.heap (bs.map (·.2))) false kA.toList its) (bs.mergeSort (dataLe false fun b : V × PyData => b.2)) :=
      keyedOut_each (R := fun u (b : V × PyData) => RelV b.1 u) (·.2) ⟨s'.heap, kA.toList, hal, rfl, er⟩ (vals_each rv)
    have hv := each_vals eo
    have un3 : Un (frs X.stack) [] H H' s.heap h3 := by
      have ne : ∀ {b : Addr} {o : Obj}, s.heap.get? b = some o → b ≠ n + 1 ∧ b ≠ kS := fun {b o} q => by
        have h1 := Heap.lt_size q
        rw [hn] at h1
        exact ⟨fun z => by rw [z] at h1; exact absurd h1 (Nat.not_lt.mpr (Nat.le_succ n)), fun z => by rw [z] at h1; exact absurd h1 (Nat.not_lt.mpr (show n ≤ kS by omega))⟩
      exact ⟨fun b o q n m x => k3 b o (ne q).1 (ne q).2 (un.keep b o q n m x), fun b o q n m x => let ⟨sl, e⟩ := un.slot b o q n m x; ⟨sl, k3 b _ (ne q).1 (ne q).2 e⟩, un.free, fun b o q x => let ⟨o', e⟩ := un.there b o q x; ⟨o', k3 b o' (ne q).1 (ne q).2 e⟩, un.tups, un.frzs, un.tbls⟩
    have hok3 : HOk X.prog X.w H' h3 := fun b u e => by
      have n1 : ∀ d, (d = b ∨ H' d = some (.own b)) → d ≠ n + 1 := fun d hd z => by
        rcases hd with y | y
        · rw [← y, z, na] at e; cases e
        · rw [z, na] at y; cases y
      have n2 : ∀ d, (d = b ∨ H' d = some (.own b)) → d ≠ kS := fun d hd z => by
        rcases hd with y | y
        · rw [← y, z, nk] at e; cases e
        · rw [z, nk] at y; cases y
      exact (hok b u e).stay (fun d v hd q => k3 d v (n1 d hd) (n2 d hd) q) (fun _ e => e) (fun _ _ e => e)
    have nb : ∀ {b : Addr} {u : HO}, H' b = some u → b ≠ n + 1 := fun e z => by rw [z, na] at e; cases e
    have un4 : Un (frs X.stack) [] H (upd H' (n + 1) (.lst ((bs.mergeSort (dataLe false (fun b : V × PyData => b.2))).map (·.1)))) s.heap h3 := by
      refine ⟨un3.keep, un3.slot, fun b o q m x => ?_, un3.there, fun b xs q => ?_, fun b o xs q => ?_, fun b ps q => ?_⟩
      · have h1 := Heap.lt_size q
        rw [hn] at h1
        rw [upd_ne fun z => by rw [z] at h1; exact absurd h1 (Nat.not_lt.mpr (Nat.le_succ n))]
        exact un3.free b o q m x
      · rw [upd_ne (nb (un3.tups b xs q))]; exact un3.tups b xs q
      · rw [upd_ne (nb (un3.frzs b o xs q))]; exact un3.frzs b o xs q
      · obtain ⟨m, e⟩ := un3.tbls b ps q
        exact ⟨m, by rw [upd_ne (nb e)]; exact e⟩
    have hok4 : HOk X.prog X.w (upd H' (n + 1) (.lst ((bs.mergeSort (dataLe false fun b : V × PyData => b.2)).map (·.1)))) h3 := fun b u e => by
      by_cases hb : b = n + 1
      · subst hb
        rw [upd_same] at e
        cases e
        refine ⟨?_, _, c, hv, g3⟩
        rw [List.length_map, List.length_mergeSort, ← li]; exact hZ
      · rw [upd_ne hb] at e
        exact (hok3 b u e).stay (fun _ _ _ q => q) (fun d q => by rw [upd_ne (nb q)]; exact q) fun d xs q => by rw [upd_ne (nb q)]; exact q
    refine I.after ⟨.ref (n + 1), _, os, bare, un4, hok4, rfl, q (n + 1) _ (fun b o e => ?_) upd_same⟩
    rw [upd_ne (nb (sm _ _ e))]
    exact sm _ _ e
end
end Sk

/-! [elt for .. in .. for .. in .. for .. in ..] -/
namespace L2
open PySem PySem.Spec PyProof.Rows
abbrev LC3 (elt t0 i0 t1 i1 t2 i2 : Expr) (ifs0 ifs1 ifs2 : List Expr) (scope : Scope) (pos : Pos) : Expr := .ListComp elt [⟨t0, i0, ifs0, 0⟩, ⟨t1, i1, ifs1, 0⟩, ⟨t2, i2, ifs2, 0⟩] scope pos
section
variable (elt t0 i0 t1 i1 t2 i2 : Expr) (ifs0 ifs1 ifs2 : List Expr) (scope : Scope) (pos : Pos) (it acc : Value) (env : Env)
theorem compTurn3_0 :
    compTurn (LC3 elt t0 i0 t1 i1 t2 i2 ifs0 ifs1 ifs2 scope pos) 0 it acc env = (do
      standAt i0.pos
      match ← pyNext it with
      | none => pure (.done .next)
      | some v =>
        letOwnedTupleGo t0 it v
        assign t0 env v
        let mut ok := true
        for c in ifs0 do
          if ok then ok ← isTrue c env (eval c env)
        if ok then
          let x ← eval i1 env
          standAt i1.pos
          let x ← foldedSetIterable i1 env x
          let _ ← runOwn (.compStart (LC3 elt t0 i0 t1 i1 t2 i2 ifs0 ifs1 ifs2 scope pos) 1 (← holding [x] (pyIter x)) acc env) env
        again (.compLoop (LC3 elt t0 i0 t1 i1 t2 i2 ifs0 ifs1 ifs2 scope pos) 0 it acc env)) := by rfl
theorem compTurn3_1 :
    compTurn (LC3 elt t0 i0 t1 i1 t2 i2 ifs0 ifs1 ifs2 scope pos) 1 it acc env = (do
      standAt i1.pos
      match ← pyNext it with
      | none => pure (.done .next)
      | some v =>
        letOwnedTupleGo t1 it v
        assign t1 env v
        let mut ok := true
        for c in ifs1 do
          if ok then ok ← isTrue c env (eval c env)
        if ok then
          let x ← eval i2 env
          standAt i2.pos
          let x ← foldedSetIterable i2 env x
          let _ ← runOwn (.compStart (LC3 elt t0 i0 t1 i1 t2 i2 ifs0 ifs1 ifs2 scope pos) 2 (← holding [x] (pyIter x)) acc env) env
        again (.compLoop (LC3 elt t0 i0 t1 i1 t2 i2 ifs0 ifs1 ifs2 scope pos) 1 it acc env)) := by rfl
theorem compTurn3_2 :
    compTurn (LC3 elt t0 i0 t1 i1 t2 i2 ifs0 ifs1 ifs2 scope pos) 2 it acc env = (do
      standAt i2.pos
      match ← pyNext it with
      | none => pure (.done .next)
      | some v =>
        letOwnedTupleGo t2 it v
        assign t2 env v
        let mut ok := true
        for c in ifs2 do
          if ok then ok ← isTrue c env (eval c env)
        if ok then
          (do let _ ← call (.builtin "list.append") [acc, ← eval elt env])
        again (.compLoop (LC3 elt t0 i0 t1 i1 t2 i2 ifs0 ifs1 ifs2 scope pos) 2 it acc env)) := by rfl
end
section
variable {prog : Program} {w : World} {A : Around} {R : Result → Shared → Prop} {s : Shared} {elt t0 i0 t1 i1 t2 i2 : Expr} {ifs0 ifs1 ifs2 : List Expr} {scope : Scope} {pos : Pos} {it acc : Value} {env : Env}
/-- a loop that starts the next clause -/
theorem compLoop3_g {lv : Nat} {t i : Expr} {ifs : List Expr} {pi : Pos} (t1' i1' : Expr)
    (eq : ∀ it acc env, compTurn (LC3 elt t0 i0 t1 i1 t2 i2 ifs0 ifs1 ifs2 scope pos) lv it acc env = (do
      standAt pi
      match ← pyNext it with
      | none => pure (.done .next)
      | some v =>
        letOwnedTupleGo t it v
        assign t env v
        let mut ok := true
        for c in ifs do
          if ok then ok ← isTrue c env (eval c env)
        if ok then
          let x ← eval i env
          standAt i.pos
          let x ← foldedSetIterable i env x
          let _ ← runOwn (.compStart (LC3 elt t0 i0 t1 i1 t2 i2 ifs0 ifs1 ifs2 scope pos) (lv + 1) (← holding [x] (pyIter x)) acc env) env
        again (.compLoop (LC3 elt t0 i0 t1 i1 t2 i2 ifs0 ifs1 ifs2 scope pos) lv it acc env)))
    (hs : ∀ x, foldedSetIterable i env x = pure x) (I : Nat → Shared → Prop)
    (turn : ∀ n s, I n s → wpAny (model prog w) A (pyNext it) (fun r s₁ => match r with
      | none => R (.ok .next) s₁
      | some v => wpAny (model prog w) A (letOwnedTupleGo t it v) (fun _ s₁' => wpAny (model prog w) A (assign t env v) (fun _ s₂ =>
          wpAny (model prog w) A (forIn ifs true fun c r => if r = true then do let ok ← isTrue c env (eval c env); pure (ForInStep.yield ok) else pure (ForInStep.yield r)) (fun ok s₃ =>
            if ok = true then wpAny (model prog w) A (eval i env) (fun x s₄ => wpAny (model prog w) A (pyIter x) (fun it1 s₅ =>
              codeAny (model prog w) A (.compStart (LC3 elt t0 i0 t1 i1 t2 i2 ifs0 ifs1 ifs2 scope pos) (lv + 1) it1 acc env) (fun r s' => match r with
                | .ok _ => ∃ m, m < n ∧ I m s'
                | .error _ => False) s₅) (notedBy (model prog w) A env fun e s' => R (.error e) s') s₄) (notedBy (model prog w) A env fun e s' => R (.error e) s') s₃
            else ∃ m, m < n ∧ I m s₃) (notedBy (model prog w) A env fun e s' => R (.error e) s') s₂) (notedBy (model prog w) A env fun e s' => R (.error e) s') s₁') (notedBy (model prog w) A env fun e s' => R (.error e) s') s₁) (notedBy (model prog w) A env fun e s' => R (.error e) s') s)
    (n : Nat) (h : I n s) :
    codeAny (model prog w) A (.compLoop (LC3 elt t0 i0 t1 i1 t2 i2 ifs0 ifs1 ifs2 scope pos) lv it acc env) R s := by
  refine codeAny_loop rfl I (fun n s hI => ?_) n h
  show wpAny _ A ((compTurn (LC3 elt t0 i0 t1 i1 t2 i2 ifs0 ifs1 ifs2 scope pos) lv it acc env).onRaise (fun x => do noteFrame x env; theTreesLotGoes x)) _ _ s
  refine wpAny_noted ?_
  rw [eq]
  refine wpAny_bind (wpAny_standAt (wpAny_bind (wpAny_mono (turn n s hI) (fun r s₁ h₁ => ?_) fun _ _ h' => h')))
  cases r with
  | none => exact wpAny_pure h₁
  | some v =>
    refine wpAny_bind (wpAny_mono h₁ (fun _ s₁' h₁' => ?_) fun _ _ h' => h')
    refine wpAny_bind (wpAny_mono h₁' (fun _ s₂ h₂ => wpAny_bind (wpAny_mono h₂ (fun ok s₃ h₃ => ?_) fun _ _ h' => h')) fun _ _ h' => h')
    cases ok with
    | false => exact wpAny_pure ⟨rfl, h₃⟩
    | true =>
      refine wpAny_bind (wpAny_mono h₃ (fun x s₄ h₄ => ?_) fun _ _ h' => h')
      refine wpAny_bind (wpAny_standAt (wpAny_bind (wpAny_of_eq (hs x) (wpAny_bind (wpAny_holding (wpAny_mono h₄ (fun it1 s₅ h₅ => ?_) fun _ _ h' => h'))))))
      refine wpAny_bind (wpAny_runOwn ?_)
      rw [Around.mark_none]
      refine codeAny_mono h₅ fun r s' hr => ?_
      cases r with
      | ok f =>
        first
          | exact wpAny_pure ⟨rfl, hr⟩
          | exact wpAny_bind (wpAny_pure (wpAny_pure ⟨rfl, hr⟩))
      | error e => exact hr.elim
theorem compLoop3_in (I : Nat → Shared → Prop)
    (turn : ∀ n s, I n s → wpAny (model prog w) A (pyNext it) (fun r s₁ => match r with
      | none => R (.ok .next) s₁
      | some v => wpAny (model prog w) A (letOwnedTupleGo t2 it v) (fun _ s₁' => wpAny (model prog w) A (assign t2 env v) (fun _ s₂ =>
          wpAny (model prog w) A (forIn ifs2 true fun c r => if r = true then do let ok ← isTrue c env (eval c env); pure (ForInStep.yield ok) else pure (ForInStep.yield r)) (fun ok s₃ =>
            if ok = true then wpAny (model prog w) A (eval elt env) (fun x s₄ =>
              wpAny (model prog w) A (call (.builtin "list.append") [acc, x]) (fun _ s₅ => ∃ m, m < n ∧ I m s₅) (notedBy (model prog w) A env fun e s' => R (.error e) s') s₄) (notedBy (model prog w) A env fun e s' => R (.error e) s') s₃
            else ∃ m, m < n ∧ I m s₃) (notedBy (model prog w) A env fun e s' => R (.error e) s') s₂) (notedBy (model prog w) A env fun e s' => R (.error e) s') s₁') (notedBy (model prog w) A env fun e s' => R (.error e) s') s₁) (notedBy (model prog w) A env fun e s' => R (.error e) s') s)
    (n : Nat) (h : I n s) :
    codeAny (model prog w) A (.compLoop (LC3 elt t0 i0 t1 i1 t2 i2 ifs0 ifs1 ifs2 scope pos) 2 it acc env) R s := by
  refine codeAny_loop rfl I (fun n s hI => ?_) n h
  show wpAny _ A ((compTurn (LC3 elt t0 i0 t1 i1 t2 i2 ifs0 ifs1 ifs2 scope pos) 2 it acc env).onRaise (fun x => do noteFrame x env; theTreesLotGoes x)) _ _ s
  refine wpAny_noted ?_
  rw [compTurn3_2]
  refine wpAny_bind (wpAny_standAt (wpAny_bind (wpAny_mono (turn n s hI) (fun r s₁ h₁ => ?_) fun _ _ h' => h')))
  cases r with
  | none => exact wpAny_pure h₁
  | some v =>
    refine wpAny_bind (wpAny_mono h₁ (fun _ s₁' h₁' => ?_) fun _ _ h' => h')
    refine wpAny_bind (wpAny_mono h₁' (fun _ s₂ h₂ => wpAny_bind (wpAny_mono h₂ (fun ok s₃ h₃ => ?_) fun _ _ h' => h')) fun _ _ h' => h')
    cases ok with
    | false => exact wpAny_pure ⟨rfl, h₃⟩
    | true =>
      exact wpAny_bind (wpAny_bind (wpAny_mono h₃ (fun x s₄ h₄ => wpAny_bind (wpAny_mono h₄ (fun _ s₅ h₅ => wpAny_pure (wpAny_pure ⟨rfl, h₅⟩)) fun _ _ h' => h')) fun _ _ h' => h'))
theorem compStart3_ok (lv : Nat) (h0 : codeAny (model prog w) A (.compLoop (LC3 elt t0 i0 t1 i1 t2 i2 ifs0 ifs1 ifs2 scope pos) (lv + 1) it acc env) R s)
    (h : wpAny (model prog w) A (pyIter it) (fun it' s' => codeAny (model prog w) A (.compLoop (LC3 elt t0 i0 t1 i1 t2 i2 ifs0 ifs1 ifs2 scope pos) (lv + 1) it' acc env) R s')
      (notedBy (model prog w) A env fun x s' => R (.error x) s') s) (hl : lv = 0 ∨ lv = 1) :
    codeAny (model prog w) A (.compStart (LC3 elt t0 i0 t1 i1 t2 i2 ifs0 ifs1 ifs2 scope pos) (lv + 1) it acc env) R s := by
  refine codeAny_of_tree ?_
  show wpAny _ _ ((compStart (LC3 elt t0 i0 t1 i1 t2 i2 ifs0 ifs1 ifs2 scope pos) (lv + 1) it acc env).onRaise (fun x => do noteFrame x env; standAt theWindowsPlace)) _ _ s
  refine wpAny_notedAt ?_
  unfold compStart
  rcases hl with rfl | rfl
  · show wpAny _ _ (ask >>= _) _ _ s
    refine wpAny_bind (wpAny_askSetting (wpAny_ite ?_))
    split
    · first
        | exact wpAny_bind (wpAny_pure (wpAny_pure (And.intro rfl h0)))
        | exact wpAny_pure (And.intro rfl h0)
    · first
        | exact wpAny_bind (wpAny_rule (wpAny_bind (wpAny_standAt (wpAny_bind (wpAny_mono h (fun it' s' h' => wpAny_pure (And.intro rfl h')) fun _ _ x => x)))))
        | (refine wpAny_bind (wpAny_rule ?_); show wpAny _ _ (standAt i1.pos >>= _) _ _ s; exact wpAny_bind (wpAny_standAt (wpAny_bind (wpAny_mono h (fun it' s' h' => wpAny_pure (And.intro rfl h')) fun _ _ x => x))))
  · show wpAny _ _ (ask >>= _) _ _ s
    refine wpAny_bind (wpAny_askSetting (wpAny_ite ?_))
    split
    · first
        | exact wpAny_bind (wpAny_pure (wpAny_pure (And.intro rfl h0)))
        | exact wpAny_pure (And.intro rfl h0)
    · first
        | exact wpAny_bind (wpAny_rule (wpAny_bind (wpAny_standAt (wpAny_bind (wpAny_mono h (fun it' s' h' => wpAny_pure (And.intro rfl h')) fun _ _ x => x)))))
        | (refine wpAny_bind (wpAny_rule ?_); show wpAny _ _ (standAt i2.pos >>= _) _ _ s; exact wpAny_bind (wpAny_standAt (wpAny_bind (wpAny_mono h (fun it' s' h' => wpAny_pure (And.intro rfl h')) fun _ _ x => x))))
end
theorem wipe_out3 : True := trivial
section
variable {X : Cx}
def tLc3 (wi : TI) (g : TG) (tt : TT) (wi1 : TI) (g1 : TG) (tt1 : TT) (wi2 : TI) (g2 : TG) (tt2 : TT) (te : TE) (vs vs1 vs2 : List Nat) : TE := fun σ H Q => wi σ H fun J H1 => ∀ D, H1 D = none → ∃ W : Nat → Nat → Hp → Prop, (∃ m, W 0 m (upd H1 D (.lst []))) ∧ ∀ i m H, W i m H →
  (J.stop i H ∧ Q (.ref D) H) ∨ (J.go i H ∧ ∃ Nx : Hp → Prop, (∀ H', Nx H' → ∃ m', m' < m ∧ W (i + 1) m' H') ∧ ∀ x H', J.yld i H x H' → g x (wipe σ vs) H' fun σ2 H2 => wipe σ2 vs = wipe σ vs ∧ tt σ2 H2 fun b H3 =>
    if b = true then wi1 σ2 H3 fun J1 H4 => ∃ W1 : Nat → Nat → Hp → Prop, (∃ m, W1 0 m H4) ∧ ∀ j k H, W1 j k H →
      (J1.stop j H ∧ Nx H) ∨ (J1.go j H ∧ ∃ Nx1 : Hp → Prop, (∀ H', Nx1 H' → ∃ k', k' < k ∧ W1 (j + 1) k' H') ∧ ∀ x H', J1.yld j H x H' → g1 x (wipe σ2 vs1) H' fun σ3 H5 => wipe σ3 vs1 = wipe σ2 vs1 ∧ tt1 σ3 H5 fun b H6 =>
        if b = true then wi2 σ3 H6 fun J2 H7 => ∃ W2 : Nat → Nat → Hp → Prop, (∃ m, W2 0 m H7) ∧ ∀ l p H, W2 l p H →
          (J2.stop l H ∧ Nx1 H) ∨ (J2.go l H ∧ ∃ Nx2 : Hp → Prop, (∀ H', Nx2 H' → ∃ p', p' < p ∧ W2 (l + 1) p' H') ∧ ∀ x H', J2.yld l H x H' → g2 x (wipe σ3 vs2) H' fun σ4 H8 => wipe σ4 vs2 = wipe σ3 vs2 ∧ tt2 σ4 H8 fun b H9 =>
            if b = true then te σ4 H9 fun y H10 => ∃ acc, H10 D = some (.lst acc) ∧ acc.length < sizeLine ∧ Nx2 (upd H10 D (.lst (acc ++ [y]))) else Nx2 H9)
        else Nx1 H6)
    else Nx H3)
theorem lc3_core {pins : List (Addr × Obj)} {s : Shared} {σ : St} {H : Hp} {Q : VK} {elt tg iter tg1 iter1 tg2 iter2 : Expr} {ifs ifs1 ifs2 : List Expr} {scope : Scope} {own : List (Str × Nat)} {vs1 vs2 : List Nat} {pos pos' : Pos} {wi wi1 wi2 : TI} {g g1 g2 : TG} {tt tt1 tt2 : TT} {te : TE} {use : Option (Value → Sem Unit)} {Qf : Value → Shared → Prop}
    (hc : X.calm = true) (hN : X.N.Nodup) (I : Inv X pins σ H s) (hi : PI X tg iter wi) (ok : BlkOk X.N X.env.scope scope own) (hv : ∀ i ∈ vs1, i ∈ own.map (·.2)) (hv2 : ∀ i ∈ vs2, i ∈ vs1)
    (hg : ∀ (s : Shared) (H : Hp) (C : Addr) (cl : List (Str × Addr)) (fp : List Addr), PG (X.blk s H scope (compEnvC scope cl C X.env) fp) tg g) (ht : ∀ (s : Shared) (H : Hp) (C : Addr) (cl : List (Str × Addr)) (fp : List Addr), PTs (X.blk s H scope (compEnvC scope cl C X.env) fp) ifs tt)
    (he : ∀ (s : Shared) (H : Hp) (C : Addr) (cl : List (Str × Addr)) (fp : List Addr), PE (X.blk s H scope (compEnvC scope cl C X.env) fp) elt te) (hs : ∀ x, foldedSetIterable iter X.env x = pure x)
    (hi1 : ∀ (s : Shared) (H : Hp) (C : Addr) (cl : List (Str × Addr)) (fp : List Addr), PI (X.blk s H scope (compEnvC scope cl C X.env) fp) tg1 iter1 wi1)
    (hg1 : ∀ (s : Shared) (H : Hp) (C : Addr) (cl : List (Str × Addr)) (fp : List Addr), PG (X.blk s H scope (compEnvC scope cl C X.env) fp) tg1 g1)
    (ht1 : ∀ (s : Shared) (H : Hp) (C : Addr) (cl : List (Str × Addr)) (fp : List Addr), PTs (X.blk s H scope (compEnvC scope cl C X.env) fp) ifs1 tt1)
    (hi2 : ∀ (s : Shared) (H : Hp) (C : Addr) (cl : List (Str × Addr)) (fp : List Addr), PI (X.blk s H scope (compEnvC scope cl C X.env) fp) tg2 iter2 wi2)
    (hg2 : ∀ (s : Shared) (H : Hp) (C : Addr) (cl : List (Str × Addr)) (fp : List Addr), PG (X.blk s H scope (compEnvC scope cl C X.env) fp) tg2 g2)
    (ht2 : ∀ (s : Shared) (H : Hp) (C : Addr) (cl : List (Str × Addr)) (fp : List Addr), PTs (X.blk s H scope (compEnvC scope cl C X.env) fp) ifs2 tt2)
    (hs1 : ∀ env x, foldedSetIterable iter1 env x = pure x) (hs2 : ∀ env x, foldedSetIterable iter2 env x = pure x)
    (h : tLc3 wi g tt wi1 g1 tt1 wi2 g2 tt2 te (own.map (·.2)) vs1 vs2 σ H Q)
    (hRR : ∀ D C s' m H', Inv X pins σ H' s' → Q (.ref D) H' → s'.heap.Ns C m → FpOk X pins H' C → compPost (model X.prog X.w) X.A X.xe use Qf (.ref D) C (.ok .next) s') :
    wpAny (model X.prog X.w) X.A (comprehension (LC3 elt tg iter tg1 iter1 tg2 iter2 ifs ifs1 ifs2 scope pos) scope X.env pos' (newList []) false (eval iter X.env) use) Qf X.xe s := by
  have hfree : ∀ y ∈ scope.names, y.2 = .free → ∃ c, X.env.cells.lookup y.1 = some c := fun y hy e => by
    rcases ok.free y hy e with k | k
    · exact I.ok.has _ (.inl k)
    · exact I.ok.has _ (.inr k)
  refine wpAny_comprehension_free (use := use) rfl hs (closure_ok hfree) ok.kind (fun y hy e => by rw [ok.uniq y hy, e])
    (thn (hi.run pins s σ H _ I h) fun xv s1 hx => thn hx fun itv s2 h2 => ?_)
  obtain ⟨it, fp, tn, J, H2, e, I2, T, st2, f2, q⟩ := h2
  subst e
  refine wpAny_newObj_type (newEnv_comp ?_) (by show 0 ≤ sizeLine; decide)
  generalize hD : s2.heap.objs.size = D
  have hDn : H2 D = none := I2.hok.fresh (Nat.le_of_eq hD)
  obtain ⟨W, ⟨m0, w0⟩, turn⟩ := q D hDn
  -- the new list
  generalize hs3 : ({ s2 with heap := s2.heap.push { cls := .type "list", data := .seq ([] : List Value).toArray } } : Shared) = s3
  have I3 : Inv X pins σ (upd H2 D (.lst [])) s3 := by
    rw [← hs3]
    refine I2.laid (t' := s2.toks) (fun b o e => Heap.get?_push_of_some _ e) (Nat.le_of_eq hD) ⟨Nat.zero_le _, [], 0, .nil, ?_⟩
    rw [← hD]
    exact Heap.get?_push_size _ rfl
  have h3 : s3.heap = s2.heap.push { cls := .type "list", data := .seq ([] : List Value).toArray } := by rw [← hs3]
  have sz : ∀ b ∈ fp, b < s2.heap.objs.size := fun b hb => by
    obtain ⟨o, e, _⟩ := T.obj _ _ st2 b hb
    exact Heap.lt_size e
  have f3 : ∀ b ∈ fp, FpOk X pins (upd H2 D (.lst [])) b ∧ b < s3.heap.objs.size := fun b hb => by
    have hlt := sz b hb
    refine ⟨⟨?_, (f2 b hb).2⟩, by rw [h3, Heap.size_push]; exact Nat.lt_succ_of_lt hlt⟩
    rw [upd_ne (by rw [← hD]; exact Nat.ne_of_lt hlt)]
    exact (f2 b hb).1
  have st3 : tn 0 s3.heap := T.keep _ _ _ st2 fun b _ o e => by rw [h3]; exact Heap.get?_push_of_some _ e
  have I4 := block_start I3 ok hN f3
  have pg := hg s3 (upd H2 D (.lst [])) s3.heap.objs.size (cellsFrom (s3.heap.objs.size + 1) scope.names (cloFrom X.env.cells scope.names [])) fp
  have pt := ht s3 (upd H2 D (.lst [])) s3.heap.objs.size (cellsFrom (s3.heap.objs.size + 1) scope.names (cloFrom X.env.cells scope.names [])) fp
  have pe := he s3 (upd H2 D (.lst [])) s3.heap.objs.size (cellsFrom (s3.heap.objs.size + 1) scope.names (cloFrom X.env.cells scope.names [])) fp
  have pi1 := hi1 s3 (upd H2 D (.lst [])) s3.heap.objs.size (cellsFrom (s3.heap.objs.size + 1) scope.names (cloFrom X.env.cells scope.names [])) fp
  have pg1 := hg1 s3 (upd H2 D (.lst [])) s3.heap.objs.size (cellsFrom (s3.heap.objs.size + 1) scope.names (cloFrom X.env.cells scope.names [])) fp
  have pt1 := ht1 s3 (upd H2 D (.lst [])) s3.heap.objs.size (cellsFrom (s3.heap.objs.size + 1) scope.names (cloFrom X.env.cells scope.names [])) fp
  have pi2 := hi2 s3 (upd H2 D (.lst [])) s3.heap.objs.size (cellsFrom (s3.heap.objs.size + 1) scope.names (cloFrom X.env.cells scope.names [])) fp
  have pg2 := hg2 s3 (upd H2 D (.lst [])) s3.heap.objs.size (cellsFrom (s3.heap.objs.size + 1) scope.names (cloFrom X.env.cells scope.names [])) fp
  have pt2 := ht2 s3 (upd H2 D (.lst [])) s3.heap.objs.size (cellsFrom (s3.heap.objs.size + 1) scope.names (cloFrom X.env.cells scope.names [])) fp
  show codeAny _ _ (.compStart (LC3 elt tg iter tg1 iter1 tg2 iter2 ifs ifs1 ifs2 scope pos) 0 (.ref it) (.ref D) (compEnvC scope (cellsFrom (s3.heap.objs.size + 1) scope.names (cloFrom X.env.cells scope.names [])) s3.heap.objs.size X.env)) (compPost (model X.prog X.w) X.A X.xe use Qf (.ref D) s3.heap.objs.size) { s3 with heap := pushCells (s3.heap.push { cls := .type "dict", data := .dict #[] }) scope.names }
  have nfp : ∀ b ∈ fp, (upd H2 D (.lst [])) b = none := fun b hb => (f3 b hb).1.1
  generalize hce : compEnvC scope (cellsFrom (s3.heap.objs.size + 1) scope.names (cloFrom X.env.cells scope.names [])) s3.heap.objs.size X.env = ce at I4 pg pt pe pi1 pg1 pt1 pi2 pg2 pt2 ⊢
  have cL : ce.locals = s3.heap.objs.size := by subst hce; rfl
  generalize hH3 : upd H2 D (.lst []) = H3 at I3 I4 pg pt pe pi1 pg1 pt1 pi2 pg2 pt2 w0 nfp f3
  generalize hs4 : ({ s3 with heap := pushCells (s3.heap.push { cls := .type "dict", data := .dict #[] }) scope.names } : Shared) = s4 at I4 ⊢
  have st4 : tn 0 s4.heap := T.keep _ _ _ st3 fun b _ o e => by rw [← hs4]; exact pushCells_keeps _ _ _ _ (Heap.get?_push_of_some _ e)
  have stat : ∀ {σ' : St} {H' : Hp} {s' : Shared}, Inv (X.blk s3 H3 scope ce fp) [] σ' H' s' → (∀ b ∈ fp, H' b = none) → ∀ b ∈ fp, FpOk (X.blk s3 H3 scope ce fp) [] H' b := fun {σ' H' s'} I' hn b hb =>
    ⟨hn b hb, (I'.ok.exf b hb).1, I'.ok.exfs b hb, .inl hb, fun x c e => (I'.ok.exf b hb).2 x c e, fun p hp => absurd (show p ∈ ([] : List (Addr × Obj)) ++ [] from hp) (by simp)⟩
  have loop : codeAny (model X.prog X.w) X.A (.compLoop (LC3 elt tg iter tg1 iter1 tg2 iter2 ifs ifs1 ifs2 scope pos) 0 (.ref it) (.ref D) ce) (compPost (model X.prog X.w) X.A X.xe use Qf (.ref D) s3.heap.objs.size) s4 := by
    refine compLoop3_g (t := tg) (i := iter1) (ifs := ifs) (pi := iter.pos) tg iter (fun _ _ _ => compTurn3_0 ..) (hs1 ce) (fun n s' => ∃ i H', Inv (X.blk s3 H3 scope ce fp) [] (wipe σ (own.map (·.2))) H' s' ∧ tn i s'.heap ∧ (∀ b ∈ fp, H' b = none) ∧ W i n H') ?_ m0 ⟨0, H3, I4, st4, nfp, w0⟩
    rintro n s5 ⟨i, H5, I5, st5, n5, w5⟩
    rcases turn i n H5 w5 with ⟨stop, qq⟩ | ⟨go, Nx, hNx, step⟩
    · have td := T.done (X.blk s3 H3 scope ce fp) rfl rfl rfl hc i [] s5 _ H5 (fun _ _ => False) I5 (stat I5 n5) st5 stop
      refine thnF td fun r s6 ⟨hr, I6⟩ => ?_
      subst hr
      -- back in the def's context
      have I7 : Inv X pins σ H5 s6 := I3.call' (ch := fp) I6.os I6.base I6.hok I6.bare fun b hb => ⟨(f3 b hb).1.2.2.2.1, (f3 b hb).1.2.1, (f3 b hb).1.2.2.2.2.1, (f3 b hb).1.2.2.2.2.2⟩
      have nC : H5 s3.heap.objs.size = none := by
        have z : H5 ce.locals = none := I6.free
        rw [cL] at z
        exact z
      obtain ⟨m, hn, _⟩ := I6.loc
      have hn : s6.heap.Ns ce.locals m := hn
      rw [cL] at hn
      exact hRR D s3.heap.objs.size s6 m H5 I7 qq hn (I3.fpOk (Nat.le_refl _) nC)
    · have ti := T.item (X.blk s3 H3 scope ce fp) rfl rfl rfl hc i [] s5 _ H5 (fun _ _ => False) I5 (stat I5 n5) st5 go
      refine thnF ti fun r s6 ⟨u, hr, h6⟩ => ?_
      subst hr
      refine thnF h6 fun _ s7 ⟨x, H7, I7, r7, y7, st7, n7⟩ => ?_
      have I7' := I7.pinned (stat I7 n7) (T.obj _ _ st7)
      refine thnF (pg.run _ s7 _ H7 x u _ I7' r7 (step x H7 y7)) fun _ s8 ⟨σ8, H8, I8, hw8, q8⟩ => ?_
      refine thnF (pt.run _ s8 σ8 H8 _ I8 q8) fun b s9 ⟨H9, I9, q9⟩ => ?_
      -- the turn's end, from any slots that know what the block knew at its start
      have fin : ∀ {σ9 : St} {s' : Shared} {H' : Hp}, Inv (X.blk s3 H3 scope ce fp) ([] ++ pinsAt fp s7.heap) σ9 H' s' → (wipe σ (own.map (·.2))).length = σ9.length → (∀ (j : Nat) v, (wipe σ (own.map (·.2)))[j]? = some (some v) → σ9[j]? = some (some v)) → Nx H' →
          ∃ m, m < n ∧ ∃ i H', Inv (X.blk s3 H3 scope ce fp) [] (wipe σ (own.map (·.2))) H' s' ∧ tn i s'.heap ∧ (∀ b ∈ fp, H' b = none) ∧ W i m H' := fun {σ9 s' H'} I' hl hk nx => by
        obtain ⟨m', hm, w'⟩ := hNx H' nx
        have pin' : ∀ b ∈ fp, ∀ o, s7.heap.get? b = some o → s'.heap.get? b = some o ∧ H' b = none := fun b hb o e =>
          let z := I'.pin (b, o) (List.mem_append_right _ (List.mem_append_right _ (mem_pinsAt hb e)))
          ⟨z.1, z.2.1⟩
        refine ⟨m', hm, i + 1, H', (I'.unpinned (pins := [])).weak hl hk, T.keep _ _ _ st7 fun b hb o e => (pin' b hb o e).1, fun b hb => ?_, w'⟩
        obtain ⟨o, e, _⟩ := T.obj _ _ st7 b hb
        exact (pin' b hb o e).2
      have hl8 : (wipe σ (own.map (·.2))).length = σ8.length := by rw [← hw8, wipe_length]
      have hk8 : ∀ (j : Nat) v, (wipe σ (own.map (·.2)))[j]? = some (some v) → σ8[j]? = some (some v) := fun j v e => by
        rw [← hw8] at e
        exact (wipe_some e).1
      have hk9 : ∀ (j : Nat) v, (wipe σ (own.map (·.2)))[j]? = some (some v) → (wipe σ8 vs1)[j]? = some (some v) := fun j v e => by
        rw [← hw8] at e
        obtain ⟨e1, e2⟩ := wipe_some e
        rw [wipe_out fun z => e2 (hv j z)]
        exact e1
      cases b with
      | false =>
        simp only [Bool.false_eq_true, if_false] at q9 ⊢
        exact fin I9 hl8 hk8 q9
      | true =>
        simp only [if_true] at q9 ⊢
        refine thnF (pi1.run _ s9 σ8 H9 _ I9 q9) fun xv s10 hx => thnF hx fun itv s11 h11 => ?_
        obtain ⟨it1, fp1, tn1, J1, H11, e1, I11, T1, st11, f11, W1, ⟨m1, w1⟩, turn1⟩ := h11
        subst e1
        -- the inner loop
        have stat1 : ∀ {H' : Hp}, (∀ b ∈ fp1, H' b = none) → ∀ b ∈ fp1, FpOk (X.blk s3 H3 scope ce fp) ([] ++ pinsAt fp s7.heap) H' b := fun hn b hb => ⟨hn b hb, (f11 b hb).2⟩
        have loop1 : codeAny (model X.prog X.w) X.A (.compLoop (LC3 elt tg iter tg1 iter1 tg2 iter2 ifs ifs1 ifs2 scope pos) 1 (.ref it1) (.ref D) ce)
            (fun r s' => match r with
              | .ok _ => ∃ m, m < n ∧ ∃ i H', Inv (X.blk s3 H3 scope ce fp) [] (wipe σ (own.map (·.2))) H' s' ∧ tn i s'.heap ∧ (∀ b ∈ fp, H' b = none) ∧ W i m H'
              | .error _ => False) s11 := by
          refine compLoop3_g (t := tg1) (i := iter2) (ifs := ifs1) (pi := iter1.pos) tg1 iter1 (fun _ _ _ => compTurn3_1 ..) (hs2 ce) (fun k s' => ∃ j H', Inv (X.blk s3 H3 scope ce fp) ([] ++ pinsAt fp s7.heap) (wipe σ8 vs1) H' s' ∧ tn1 j s'.heap ∧ (∀ b ∈ fp1, H' b = none) ∧ W1 j k H') ?_ m1 ⟨0, H11, I11.weak (wipe_length _ _) (fun j v e => (wipe_some e).1), st11, fun b hb => (f11 b hb).1, w1⟩
          rintro k s12 ⟨j, H12, I12, st12, n12, w12⟩
          rcases turn1 j k H12 w12 with ⟨stop1, nx1⟩ | ⟨go1, Nx1, hNx1, step1⟩
          · refine thnF (T1.done (X.blk s3 H3 scope ce fp) rfl rfl rfl hc j _ s12 (wipe σ8 vs1) H12 (fun _ _ => False) I12 (stat1 n12) st12 stop1) fun r s13 ⟨hr, I13⟩ => ?_
            subst hr
            exact fin I13 (hl8.trans (wipe_length σ8 vs1).symm) hk9 nx1
          · refine thnF (T1.item (X.blk s3 H3 scope ce fp) rfl rfl rfl hc j _ s12 (wipe σ8 vs1) H12 (fun _ _ => False) I12 (stat1 n12) st12 go1) fun r s13 ⟨u1, hr, h13⟩ => ?_
            subst hr
            refine thnF h13 fun _ s14 ⟨x1, H14, I14, r14, y14, st14, n14⟩ => ?_
            have I14' := I14.pinned (stat1 n14) (T1.obj _ _ st14)
            refine thnF (pg1.run _ s14 (wipe σ8 vs1) H14 x1 u1 _ I14' r14 (step1 x1 H14 y14)) fun _ s15 ⟨σ15, H15, I15, hw15, q15⟩ => ?_
            refine thnF (pt1.run _ s15 σ15 H15 _ I15 q15) fun b1 s16 ⟨H16, I16, q16⟩ => ?_
            have hl15 : (wipe σ8 vs1).length = σ15.length := by rw [← hw15, wipe_length]
            have hk15 : ∀ (j : Nat) v, (wipe σ8 vs1)[j]? = some (some v) → σ15[j]? = some (some v) := fun j v e => by
              rw [← hw15] at e
              exact (wipe_some e).1
            have hk16 : ∀ (j : Nat) v, (wipe σ8 vs1)[j]? = some (some v) → (wipe σ15 vs2)[j]? = some (some v) := fun j v e => by
              rw [← hw15] at e
              obtain ⟨e1, e2⟩ := wipe_some e
              rw [wipe_out fun z => e2 (hv2 j z)]
              exact e1
            have fin1 : ∀ {σ' : St} {s' : Shared} {H' : Hp}, Inv (X.blk s3 H3 scope ce fp) (([] ++ pinsAt fp s7.heap) ++ pinsAt fp1 s14.heap) σ' H' s' → (wipe σ8 vs1).length = σ'.length → (∀ (j : Nat) v, (wipe σ8 vs1)[j]? = some (some v) → σ'[j]? = some (some v)) → Nx1 H' → ∃ m, m < k ∧ ∃ j H', Inv (X.blk s3 H3 scope ce fp) ([] ++ pinsAt fp s7.heap) (wipe σ8 vs1) H' s' ∧ tn1 j s'.heap ∧ (∀ b ∈ fp1, H' b = none) ∧ W1 j m H' := fun {σ' s' H'} I' hl hk nx => by
              obtain ⟨m', hm, w'⟩ := hNx1 H' nx
              have pin' : ∀ b ∈ fp1, ∀ o, s14.heap.get? b = some o → s'.heap.get? b = some o ∧ H' b = none := fun b hb o e =>
                let z := I'.pin (b, o) (List.mem_append_right _ (List.mem_append_right _ (mem_pinsAt hb e)))
                ⟨z.1, z.2.1⟩
              refine ⟨m', hm, j + 1, H', I'.unpinned.weak hl hk, T1.keep _ _ _ st14 fun b hb o e => (pin' b hb o e).1, fun b hb => ?_, w'⟩
              obtain ⟨o, e, _⟩ := T1.obj _ _ st14 b hb
              exact (pin' b hb o e).2
            cases b1 with
            | false =>
              simp only [Bool.false_eq_true, if_false] at q16 ⊢
              exact fin1 I16 hl15 hk15 q16
            | true =>
              simp only [if_true] at q16 ⊢
              refine thnF (pi2.run _ s16 σ15 H16 _ I16 q16) fun xv s17 hx => thnF hx fun itv s18 h18 => ?_
              obtain ⟨it2, fp2, tn2, J2, H18, e2, I18, T2, st18, f18, W2, ⟨m2, w2⟩, turn2⟩ := h18
              subst e2
              have stat2 : ∀ {H' : Hp}, (∀ b ∈ fp2, H' b = none) → ∀ b ∈ fp2, FpOk (X.blk s3 H3 scope ce fp) (([] ++ pinsAt fp s7.heap) ++ pinsAt fp1 s14.heap) H' b := fun hn b hb => ⟨hn b hb, (f18 b hb).2⟩
              have loop2 : codeAny (model X.prog X.w) X.A (.compLoop (LC3 elt tg iter tg1 iter1 tg2 iter2 ifs ifs1 ifs2 scope pos) 2 (.ref it2) (.ref D) ce)
                  (fun r s' => match r with
                    | .ok _ => ∃ m, m < k ∧ ∃ j H', Inv (X.blk s3 H3 scope ce fp) ([] ++ pinsAt fp s7.heap) (wipe σ8 vs1) H' s' ∧ tn1 j s'.heap ∧ (∀ b ∈ fp1, H' b = none) ∧ W1 j m H'
                    | .error _ => False) s18 := by
                refine compLoop3_in (fun p s' => ∃ l H', Inv (X.blk s3 H3 scope ce fp) (([] ++ pinsAt fp s7.heap) ++ pinsAt fp1 s14.heap) (wipe σ15 vs2) H' s' ∧ tn2 l s'.heap ∧ (∀ b ∈ fp2, H' b = none) ∧ W2 l p H') ?_ m2 ⟨0, H18, I18.weak (wipe_length _ _) (fun j v e => (wipe_some e).1), st18, fun b hb => (f18 b hb).1, w2⟩
                rintro p s19 ⟨l, H19, I19, st19, n19, w19⟩
                rcases turn2 l p H19 w19 with ⟨stop2, nx2⟩ | ⟨go2, Nx2, hNx2, step2⟩
                · refine thnF (T2.done (X.blk s3 H3 scope ce fp) rfl rfl rfl hc l _ s19 (wipe σ15 vs2) H19 (fun _ _ => False) I19 (stat2 n19) st19 stop2) fun r s20 ⟨hr, I20⟩ => ?_
                  subst hr
                  exact fin1 I20 (hl15.trans (wipe_length σ15 vs2).symm) hk16 nx2
                · refine thnF (T2.item (X.blk s3 H3 scope ce fp) rfl rfl rfl hc l _ s19 (wipe σ15 vs2) H19 (fun _ _ => False) I19 (stat2 n19) st19 go2) fun r s20 ⟨u2, hr, h20⟩ => ?_
                  subst hr
                  refine thnF h20 fun _ s21 ⟨x2, H21, I21, r21, y21, st21, n21⟩ => ?_
                  have I21' := I21.pinned (stat2 n21) (T2.obj _ _ st21)
                  refine thnF (pg2.run _ s21 (wipe σ15 vs2) H21 x2 u2 _ I21' r21 (step2 x2 H21 y21)) fun _ s22 ⟨σ22, H22, I22, hw22, q22⟩ => ?_
                  refine thnF (pt2.run _ s22 σ22 H22 _ I22 q22) fun b2 s23 ⟨H23, I23, q23⟩ => ?_
                  have fin2 : ∀ {s' : Shared} {H' : Hp}, Inv (X.blk s3 H3 scope ce fp) ((([] ++ pinsAt fp s7.heap) ++ pinsAt fp1 s14.heap) ++ pinsAt fp2 s21.heap) σ22 H' s' → Nx2 H' → ∃ m, m < p ∧ ∃ l H', Inv (X.blk s3 H3 scope ce fp) (([] ++ pinsAt fp s7.heap) ++ pinsAt fp1 s14.heap) (wipe σ15 vs2) H' s' ∧ tn2 l s'.heap ∧ (∀ b ∈ fp2, H' b = none) ∧ W2 l m H' := fun {s' H'} I' nx => by
                    obtain ⟨m', hm, w'⟩ := hNx2 H' nx
                    have pin' : ∀ b ∈ fp2, ∀ o, s21.heap.get? b = some o → s'.heap.get? b = some o ∧ H' b = none := fun b hb o e =>
                      let z := I'.pin (b, o) (List.mem_append_right _ (List.mem_append_right _ (mem_pinsAt hb e)))
                      ⟨z.1, z.2.1⟩
                    refine ⟨m', hm, l + 1, H', I'.unpinned.weak (by rw [← hw22, wipe_length]) (fun j v e => by rw [← hw22] at e; exact (wipe_some e).1), T2.keep _ _ _ st21 fun b hb o e => (pin' b hb o e).1, fun b hb => ?_, w'⟩
                    obtain ⟨o, e, _⟩ := T2.obj _ _ st21 b hb
                    exact (pin' b hb o e).2
                  cases b2 with
                  | false =>
                    simp only [Bool.false_eq_true, if_false] at q23 ⊢
                    exact fin2 I23 q23
                  | true =>
                    simp only [if_true] at q23 ⊢
                    refine thnF (pe.run _ s23 σ22 H23 _ I23 q23) fun z s24 ⟨yv, H24, I24, r24, acc, hD24, hz24, nx⟩ => ?_
                    exact app_ok (X := X.blk s3 H3 scope ce fp) I24 hD24 hz24 r24 fun s25 I25 => fin2 I25 nx
              exact compStart3_ok 1 loop2 (T2.self X.A 0 _ _ _ st18 loop2) (.inr rfl)
        exact compStart3_ok 0 loop1 (T1.self X.A 0 _ _ _ st11 loop1) (.inl rfl)
  exact codeAny_compStart_list loop (T.self X.A 0 _ _ _ st4 loop)
theorem pe_lc3 {elt tg iter tg1 iter1 tg2 iter2 : Expr} {ifs ifs1 ifs2 : List Expr} {scope : Scope} {own : List (Str × Nat)} {vs1 vs2 : List Nat} {pos : Pos} {wi wi1 wi2 : TI} {g g1 g2 : TG} {tt tt1 tt2 : TT} {te : TE} (hc : X.calm = true) (hN : X.N.Nodup) (hi : PI X tg iter wi) (ok : BlkOk X.N X.env.scope scope own) (hv : ∀ i ∈ vs1, i ∈ own.map (·.2)) (hv2 : ∀ i ∈ vs2, i ∈ vs1)
    (hg : ∀ (s : Shared) (H : Hp) (C : Addr) (cl : List (Str × Addr)) (fp : List Addr), PG (X.blk s H scope (compEnvC scope cl C X.env) fp) tg g) (ht : ∀ (s : Shared) (H : Hp) (C : Addr) (cl : List (Str × Addr)) (fp : List Addr), PTs (X.blk s H scope (compEnvC scope cl C X.env) fp) ifs tt)
    (hi1 : ∀ (s : Shared) (H : Hp) (C : Addr) (cl : List (Str × Addr)) (fp : List Addr), PI (X.blk s H scope (compEnvC scope cl C X.env) fp) tg1 iter1 wi1)
    (hg1 : ∀ (s : Shared) (H : Hp) (C : Addr) (cl : List (Str × Addr)) (fp : List Addr), PG (X.blk s H scope (compEnvC scope cl C X.env) fp) tg1 g1) (ht1 : ∀ (s : Shared) (H : Hp) (C : Addr) (cl : List (Str × Addr)) (fp : List Addr), PTs (X.blk s H scope (compEnvC scope cl C X.env) fp) ifs1 tt1)
    (hi2 : ∀ (s : Shared) (H : Hp) (C : Addr) (cl : List (Str × Addr)) (fp : List Addr), PI (X.blk s H scope (compEnvC scope cl C X.env) fp) tg2 iter2 wi2)
    (hg2 : ∀ (s : Shared) (H : Hp) (C : Addr) (cl : List (Str × Addr)) (fp : List Addr), PG (X.blk s H scope (compEnvC scope cl C X.env) fp) tg2 g2) (ht2 : ∀ (s : Shared) (H : Hp) (C : Addr) (cl : List (Str × Addr)) (fp : List Addr), PTs (X.blk s H scope (compEnvC scope cl C X.env) fp) ifs2 tt2)
    (he : ∀ (s : Shared) (H : Hp) (C : Addr) (cl : List (Str × Addr)) (fp : List Addr), PE (X.blk s H scope (compEnvC scope cl C X.env) fp) elt te) (hs : ∀ x, foldedSetIterable iter X.env x = pure x := by intro _; rfl) (hs1 : ∀ env x, foldedSetIterable iter1 env x = pure x := by intro _ _; rfl) (hs2 : ∀ env x, foldedSetIterable iter2 env x = pure x := by intro _ _; rfl) :
    PE X (LC3 elt tg iter tg1 iter1 tg2 iter2 ifs ifs1 ifs2 scope pos) (tLc3 wi g tt wi1 g1 tt1 wi2 g2 tt2 te (own.map (·.2)) vs1 vs2) := by
  refine ⟨fun pins s σ H Q I h => ?_⟩
  rw [eval_ListComp]
  refine lc3_core hc hN I hi ok hv hv2 hg ht he hs hi1 hg1 ht1 hi2 hg2 ht2 hs1 hs2 h fun D C s' m H' I' q hn f => ⟨m, hn, fun h'' sb => ?_⟩
  obtain ⟨f0, f1, f2, f3, f4, f5⟩ := f
  exact ⟨.ref D, H', I'.turned (t' := s'.toks) (fun b o hb e => (sb.2 b hb).trans e) f0 f1 f3 f4 f5, rfl, q⟩
end
end L2

/-! xs[::-1] of a tuple -/
namespace Rv
open PySem PySem.Spec PyProof.Rows L2 Hb Sq Ow
theorem places_rev (n : Nat) : Builtin.Slice.slicePlaces ((n : Int) - 1) (-1) (-1) = n := by
  unfold Builtin.Slice.slicePlaces
  rw [if_neg (by decide)]
  by_cases c : n = 0
  · subst c; decide
  · rw [if_pos (by omega)]
    have : ((n : Int) - 1 - -1 - 1) / - -1 + 1 = (n : Int) := by
      have : (- -1 : Int) = 1 := rfl
      rw [this, Int.ediv_one]; omega
    rw [this]; omega
theorem applied_rev {prog : Program} {w : World} {A : Around} {E : Value → Shared → Prop} {s : Shared} {sl : Addr} {vl vu vs : Value} {n : Nat} {Q : Int × Int × Nat → Shared → Prop}
    (hs : s.heap.IsSliceOf sl vl vu vs) (pl : IsPart vl none) (pu : IsPart vu none) (ps : IsPart vs (some (-1))) (h : Q ((n : Int) - 1, -1, n) s) : wpAny (model prog w) A (Builtin.Slice.sliceApplied (.ref sl) (pure (n : Int))) Q E s := by
  obtain ⟨os, hos, hcs, hds⟩ := id hs
  refine wpAny_bind (wpAny_bind (wpAny_field hos hds rfl (wpAny_bind (wpAny_field hos hds rfl (wpAny_bind (wpAny_field hos hds rfl (wpAny_pure (wpAny_bind (HT.slicePart_ ps ?_)))))))))
  show wpAny (model prog w) A (if ((-1 : Int) == 0) = true then _ else _) Q E s
  rw [if_neg (by decide)]
  refine wpAny_bind (HT.slicePart_ pl (wpAny_bind (HT.slicePart_ pu (wpAny_bind (wpAny_pure ?_)))))
  show wpAny (model prog w) A (pure ((n : Int) - 1, -1, Builtin.Slice.slicePlaces ((n : Int) - 1) (-1) (-1))) Q E s
  rw [places_rev]
  exact wpAny_pure h
theorem fm_map {α β : Type} (f : α → Option β) (g : α → β) : ∀ l : List α, (∀ k ∈ l, f k = some (g k)) → l.filterMap f = l.map g
  | [], _ => rfl
  | a :: l, h => by
    rw [List.filterMap_cons, h a List.mem_cons_self, List.map_cons, fm_map f g l fun k hk => h k (List.mem_cons_of_mem _ hk)]
theorem pick_rev (xs : Array Value) : (List.filterMap (fun k : Nat => xs[(((xs.size : Nat) : Int) - 1 + (k : Int) * -1).toNat]?) (List.range xs.size)).toArray = xs.toList.reverse.toArray := by
  congr 1
  apply List.ext_getElem?
  intro i
  have key : List.filterMap (fun k : Nat => xs[(((xs.size : Nat) : Int) - 1 + (k : Int) * -1).toNat]?) (List.range xs.size) = (List.range xs.size).map (fun k => xs.getD (xs.size - 1 - k) .none) := by
    refine fm_map _ _ _ fun k hk => ?_
    have hk := List.mem_range.mp hk
    have e : (((xs.size : Nat) : Int) - 1 + (k : Int) * -1).toNat = xs.size - 1 - k := by omega
    rw [e]
    have hlt : xs.size - 1 - k < xs.size := by omega
    rw [Array.getElem?_eq_getElem hlt]
    simp [Array.getD, hlt]
  rw [key, List.getElem?_map]
  by_cases hi : i < xs.size
  · rw [List.getElem?_range hi, List.getElem?_reverse (by rw [Array.length_toList]; exact hi)]
    have hlt : xs.size - 1 - i < xs.size := by omega
    rw [Array.length_toList, Array.getElem?_toList, Array.getElem?_eq_getElem hlt]
    simp [Array.getD, hlt]
  · rw [List.getElem?_eq_none (by rw [List.length_range]; omega), List.getElem?_eq_none (by rw [List.length_reverse, Array.length_toList]; omega)]
    rfl
theorem getItem_tuple_rev {prog : Program} {w : World} {A : Around} {E : Value → Shared → Prop} {s : Shared} {t sl : Addr} {items : Array Value} {vl vu vs : Value} {Q : Value → Shared → Prop}
    (ht : IsTup s.heap t items) (hs : s.heap.IsSliceOf sl vl vu vs) (pl : IsPart vl none) (pu : IsPart vu none) (ps : IsPart vs (some (-1)))
    (h : Q (.ref s.heap.objs.size) { s with heap := s.heap.push { cls := .type "tuple", data := .seq items.toList.reverse.toArray } }) (hsz : items.size ≤ sizeLine) :
    wpAny (model prog w) A (getItem (.ref t) (.ref sl)) Q E s := by
  obtain ⟨os, hos, hcs, hds⟩ := id hs
  have hTs : s.TypeIs (.ref sl) "slice" := ⟨os, hos, hcs⟩
  refine wpAny_holding (wpAny_bind (wpAny_sequenceKey ht.typeIs (by decide) (wpAny_bind (wpAny_callSpecial?_slot ht.typeIs PyProof.Rows.slot_tuple_getitem (wpAny_call_entry PyProof.Rows.slot_tuple_getitem ht.typeIs PyProof.Rows.entry_tuple_getitem ?_ (PyProof.Rows.args_tuple_getitem (.ref t) (.ref sl)))))))
  unfold Builtin.«tuple.__getitem__»
  rw [show slotArgs "__getitem__" 1 { pos := [Value.ref t, Value.ref sl] } = pure (Value.ref t, [Value.ref sl]) from rfl]
  refine wpAny_bind (wpAny_pure ?_)
  refine wpAny_bind (PyProof.Rows.tupleItemsOf_ ht (wpAny_bind (wpAny_typeOf hTs ?_)))
  rw [if_pos (by decide)]
  refine wpAny_bind (applied_rev hs pl pu ps ?_)
  show wpAny (model prog w) A.in1 (if (((items.size : Int) - 1 == 0 && (-1 : Int) == 1) && items.size == items.size) = true then _ else _) _ E s
  rw [if_neg (by simp)]
  show wpAny (model prog w) A.in1 (do let r ← Builtin.Tuple.tupleExact (List.filterMap (fun k : Nat => items[(((items.size : Nat) : Int) - 1 + (k : Int) * -1).toNat]?) (List.range items.size)).toArray; ret r) _ E s
  rw [pick_rev]
  refine wpAny_bind (wpAny_newObj_type (wpAny_pure ⟨.ref s.heap.objs.size, rfl, wpAny_pure h⟩) ?_)
  show items.toList.reverse.toArray.size ≤ sizeLine
  rw [List.size_toArray, List.length_reverse, Array.length_toList]
  exact hsz
def tRevT (K : PySem.W.Frag) (te : TE) : TE := fun σ H Q => te σ H fun x H1 => ∃ a xs, x = .ref a ∧ SqT K H1 a xs ∧ ∀ p, H1 p = none → Q (.ref p) (upd H1 p (.tup xs.reverse))
theorem pe_revT {X : Cx} {e st : Expr} {te ts : TE} {p3 pos : Pos} (K : PySem.W.Frag) (he : PE X e te) (hs : PE X st ts) (hN : ∀ σ H (Q : VK), Q (.int (-1)) H → ts σ H Q) (hK : X.K = K := by rfl) : PE X (.Subscript e (.Slice none none (some st) p3) pos) (tRevT K te) := by
  subst hK
  refine ⟨fun pins s σ H Q I h => Subscript_ (thn (he.run pins s σ H _ I h) fun v s1 ⟨x, H1, I1, r1, a, xs, ex, hx, q⟩ => ?_)⟩
  subst ex; cases r1
  refine wpAny_Slice (thn (po_none.run pins s1 σ H1 (fun o H2 => o = none ∧ H2 = H1) I1 ⟨rfl, rfl⟩) fun vl s2 ⟨l, H2, I2, pl, el, e2⟩ => ?_)
  subst el e2
  refine thn (po_none.run pins s2 σ H2 (fun o H3 => o = none ∧ H3 = H2) I2 ⟨rfl, rfl⟩) fun vu s3 ⟨u, H3, I3, pu, eu, e3⟩ => ?_
  subst eu e3
  refine thn ((po_some hs).run pins s3 σ H3 (fun o H4 => o = some (-1) ∧ H4 = H3) I3 (hN σ H3 _ ⟨-1, rfl, rfl, rfl⟩)) fun vs s4 ⟨o, H4, I4, ps, eo, e4⟩ => ?_
  subst eo e4
  have I5 : Inv X pins σ H4 { s4 with heap := s4.heap.push { cls := .type "slice", data := .fields #[vl, vu, vs] } } := I4.kept (t' := s4.toks) fun b ob q => Heap.get?_push_of_some _ q
  obtain ⟨its, r, ht, hz⟩ := I5.tuple hx
  have hlen := r.length
  show wpAny (model X.prog X.w) X.A (subscriptTail e (.Slice none none (some st) p3) (.ref a) (.ref s4.heap.objs.size)) (EP X pins σ Q) X.xe { s4 with heap := s4.heap.push { cls := .type "slice", data := .fields #[vl, vu, vs] } }
  refine tail_any (ops := [.ref a, .ref s4.heap.objs.size]) ht.typeIs (PyProof.Rows.slot_tuple_getitem.lookup) ?_ (by with_unfolding_all rfl)
  refine getItem_tuple_rev ht (Heap.IsSliceOf.new _ vl vu vs) pl pu ps ?_ (by rw [List.size_toArray]; omega)
  exact ⟨.ref _, _, I5.laid (t' := s4.toks) (o := .tup xs.reverse) (fun b ob q => Heap.get?_push_of_some _ q) (Nat.le_refl _) ⟨by rw [List.length_reverse]; exact hz, _, r.reverse, _, Heap.get?_push_size _ rfl, rfl, 0, rfl⟩, rfl, q _ (I5.hok.fresh (Nat.le_refl _))⟩
end Rv

namespace K6
open PySem PySem.Spec PyProof.Rows L2 Hb St Sq Ow En Zp RZ Rd Xb Da Lo
/-! ### lots and tales on the heap -/
def rLenK (K : PySem.W.Frag) : List V → Hp → VK → Prop := fun xs H Q => ∃ p ys, xs = [V.ref p] ∧ (SqL K H p ys ∨ SqT K H p ys) ∧ Q (V.int (ys.length : Nat)) H
theorem _root_.Sq.All2.of_mapR {α β γ : Type} {R : α → γ → Prop} {f : β → γ} : ∀ {as : List α} {bs : List β}, All2 (fun a b => R a (f b)) as bs → All2 R as (bs.map f)
  | _, _, .nil => .nil
  | _, _, .cons h t => .cons h (Sq.All2.of_mapR t)
def LotH (H : Hp) (v : V) (l : List Str) : Prop := ∃ b, v = .ref b ∧ H b = some (.tup (l.map V.str))
def TalH (H : Hp) (v : V) (t : Tale) : Prop := ∃ a its, v = .ref a ∧ H a = some (.tup its) ∧ All2 (LotH H) its t
/-- tuples are kept -/
def TupK (H H' : Hp) : Prop := ∀ b xs, H b = some (.tup xs) → H' b = some (.tup xs)
theorem TupK.same {H H' : Hp} (s : Same H H') : TupK H H' := fun b _ e => s b _ e
theorem TupK.fix {H H' : Hp} (s : Fix H H') : TupK H H' := fun b _ e => s b _ e (not_mut_tup _)
theorem TupK.trans {H H1 H2 : Hp} (a : TupK H H1) (b : TupK H1 H2) : TupK H H2 := fun c xs e => b c xs (a c xs e)
theorem LotH.on {H H' : Hp} {v : V} {l : List Str} (h : LotH H v l) (k : TupK H H') : LotH H' v l := let ⟨b, e, t⟩ := h; ⟨b, e, k _ _ t⟩
theorem TalH.on {H H' : Hp} {v : V} {t : Tale} (h : TalH H v t) (k : TupK H H') : TalH H' v t := let ⟨a, its, e, ea, al⟩ := h; ⟨a, its, e, k _ _ ea, al.imp fun _ _ r => r.on k⟩
theorem LotH.same {H H' : Hp} {v : V} {l : List Str} (h : LotH H v l) (s : Same H H') : LotH H' v l := h.on (.same s)
theorem LotH.fix {H H' : Hp} {v : V} {l : List Str} (h : LotH H v l) (s : Fix H H') : LotH H' v l := h.on (.fix s)
theorem TalH.same {H H' : Hp} {v : V} {t : Tale} (h : TalH H v t) (s : Same H H') : TalH H' v t := h.on (.same s)
theorem LotH.dp {K : PySem.W.Frag} {H : Hp} {v : V} {l : List Str} (h : LotH H v l) : Dp K H v (lD l) := let ⟨_, e, t⟩ := h; e ▸ .tup (SqT.of t) (dp_strs l)
def tD (t : Tale) : PyData := .tuple (t.map lD)
theorem TalH.dp {K : PySem.W.Frag} {H : Hp} {v : V} {t : Tale} (h : TalH H v t) : Dp K H v (tD t) := let ⟨_, _, e, ea, al⟩ := h; e ▸ .tup (SqT.of ea) (dp_all (fun _ _ r => r.dp) al)
/-- a tale that can be handled -/
structure TlOk (t : Tale) : Prop where
  nm : ∀ l ∈ t, ∀ x ∈ l, IsNm x
  asc : ∀ l ∈ t, l.Pairwise sLt
  ne : ∀ l ∈ t, l ≠ []
  len : t.length ≤ 100
  lot : ∀ l ∈ t, l.length ≤ 100
theorem sh_lD {l : List Str} (h : ∀ x ∈ l, IsNm x) : Sh 1 (lD l) := sh_tup fun x hx => sh_str (h x hx)
theorem sh_tD {t : Tale} (h : ∀ l ∈ t, ∀ x ∈ l, IsNm x) : Sh 2 (tD t) := sh_tup fun l hl => sh_lD (h l hl)
theorem eqv_lD (a b : List Str) : PyData.eqv (lD a) (lD b) = decide (a = b) := eqvAll_map eqv_str a b
theorem eqv_tD (a b : Tale) : PyData.eqv (tD a) (tD b) = decide (a = b) := eqvAll_map eqv_lD a b
theorem TlOk.thin {t : Tale} (ok : TlOk t) (ns : List Str) : TlOk (thinT ns t) := by
  have m : ∀ l ∈ thinT ns t, l ≠ [] ∧ ∃ l' ∈ t, l = thinL ns l' := fun l hl => thin_ne hl
  refine ⟨fun l hl x hx => ?_, fun l hl => ?_, fun l hl => (m l hl).1, ?_, fun l hl => ?_⟩
  · obtain ⟨_, l', h1, rfl⟩ := m l hl
    exact ok.nm l' h1 x (thin_in.mp hx).1
  · obtain ⟨_, l', h1, rfl⟩ := m l hl
    exact (ok.asc l' h1).sublist (thinL_sub _ _)
  · unfold thinT
    refine Nat.le_trans (List.length_filter_le _ _) ?_
    rw [List.length_map]; exact ok.len
  · obtain ⟨_, l', h1, rfl⟩ := m l hl
    exact Nat.le_trans (thinL_sub _ _).length_le (ok.lot l' h1)
theorem cut_take (xs : List V) (k : Nat) : cutV xs none (some (k : Nat)) = xs.take k := by
  unfold cutV
  rw [HT.sIx_none, HT.sIx_nat, List.drop_zero, Nat.sub_zero]
  rcases Nat.le_total k xs.length with h | h
  · rw [Nat.min_eq_left h]
  · rw [Nat.min_eq_right h, List.take_of_length_le h, List.take_of_length_le (Nat.le_refl _)]
theorem pe_revK {X : Cx} {e st : Expr} {te ts : TE} {p3 pos : Pos} (K : PySem.W.Frag) (he : PE X e te) (hs : PE X st ts) (hN : ∀ σ H (Q : VK), Q (.int (-1)) H → ts σ H Q) (hK : X.K = K := by rfl) : PE X (.Subscript e (.Slice none none (some st) p3) pos) (fun σ H Q => te σ H fun x H1 => ∃ a xs, x = .ref a ∧ SqL K H1 a xs ∧ ∀ p, H1 p = none → Q (.ref p) (upd H1 p (.lst xs.reverse))) := by
  subst hK
  exact pe_rev he hs hN
section
variable {K : PySem.W.Frag} {H : Hp} {Q : VK}
theorem rd_slT {a : Addr} {xs : List V} {lo hi : Option Int} (h : H a = some (.tup xs)) (q : ∀ p H', Same H H' → H' p = some (.tup (cutV xs lo hi)) → Q (.ref p) H') : rSlA K (.ref a) lo hi H Q := by
  refine ⟨a, xs, rfl, SqT.of h, fun ⟨e1, e2⟩ => ?_, fun _ p hp => q p _ (same_new hp _) upd_same⟩
  have e : cutV xs lo hi = xs := by
    unfold cutV
    rw [e1, e2, List.drop_zero, Nat.sub_zero, List.take_of_length_le (Nat.le_refl _)]
  exact q a H (Same.refl _) (by rw [e]; exact h)
theorem rd_catT {a b : Addr} {xs ys : List V} (ha : H a = some (.tup xs)) (hb : H b = some (.tup ys)) (l : xs.length + ys.length ≤ 1000) (q : ∀ p H', Same H H' → H' p = some (.tup (xs ++ ys)) → Q (.ref p) H') : rCatA K (.ref a) (.ref b) H Q := by
  refine ⟨a, b, xs, ys, rfl, rfl, SqT.of ha, SqT.of hb, by rw [sizeLine_eq]; omega, fun e => ?_, fun _ e => ?_, fun _ _ p hp => q p _ (same_new hp _) upd_same⟩
  · exact q b H (Same.refl _) (by rw [e, List.nil_append]; exact hb)
  · exact q a H (Same.refl _) (by rw [e, List.append_nil]; exact ha)
def tTruK (K : PySem.W.Frag) (ta : TE) : TT := fun σ H Q => ta σ H fun x H' => ∃ k, TruV K x H' k ∧ Q k H'
theorem pt_truthK {X : Cx} {a : Expr} {ta : TE} (K : PySem.W.Frag) (hK : X.K = K) (h : PE X a ta) (he : ∀ whole, PySem.isTrue a X.env whole = (do let v ← whole; standAt a.pos; holding [v] (truthy v))) : PT X a (tTruK K ta) := by
  subst hK
  exact pt_truth h he
/-- == and != of tales, of lots -/
theorem rd_eqT {v u : V} {a b : Tale} (ha : TalH H v a) (hb : TalH H u b) (na : ∀ l ∈ a, ∀ x ∈ l, IsNm x) (nb : ∀ l ∈ b, ∀ x ∈ l, IsNm x) (q : Q (.bl (decide (a = b))) H) : rEqD K v u H Q :=
  ⟨tD a, tD b, ha.dp, hb.dp, (sh_tD na).ok (by decide), (sh_tD nb).ok (by decide), by rw [eqv_tD]; exact q⟩
theorem rd_neT {v u : V} {a b : Tale} (ha : TalH H v a) (hb : TalH H u b) (na : ∀ l ∈ a, ∀ x ∈ l, IsNm x) (nb : ∀ l ∈ b, ∀ x ∈ l, IsNm x) (q : Q (.bl (!decide (a = b))) H) : rNeD K v u H Q :=
  ⟨tD a, tD b, ha.dp, hb.dp, (sh_tD na).ok (by decide), (sh_tD nb).ok (by decide), by rw [eqv_tD]; exact q⟩
end
section
variable {P : Program} {w : World} {K : PySem.W.Frag} {mg : Str → Option Value} {base : Heap}
/-! ### as_lot -/
abbrev s_as_lot : Stmt := top 11
theorem sc_as_lot : FnScope ["values"] ["values"] (defScope s_as_lot) := ⟨rfl, rfl, rfl, by decide +kernel, rfl, by decide +kernel, by decide +kernel⟩
def spLot (K : PySem.W.Frag) : Sp := fun vs H Q _ => ∃ a : Addr, vs = [.ref a] ∧ ((∃ ns : List Str, SqX K H a (ns.map V.str) ∧ ns.length ≤ 1000 ∧ ∀ p H', Same H H' → H' p = some (.tup ((lotS ns).map V.str)) → Q (.ref p) H') ∨
  (∃ ns : List Int, SqX K H a (ns.map V.int) ∧ ns.length < 64 ∧ ∀ p H', Same H H' → H' p = some (.tup ((lotI ns).map V.int)) → Q (.ref p) H'))
theorem ok_as_lot {f : Addr} {fd : FuncData} (F : Fun K "as_lot" "as_lot" s_as_lot f fd) (n_set : mg "set" = none) (n_sorted : mg "sorted" = none) (n_tuple : mg "tuple" = none) : FnOk P w K mg base CX0 1 f fd ["values"] (spLot K) := by
  refine F.ok sc_as_lot (fun vs H Q E h => ?_) (fun cdv A outer s H vs Q E hr h => ?_)
  · obtain ⟨_, rfl, _⟩ := h
    rfl
  · obtain ⟨a, rfl, ⟨ns, hx, hl, q⟩ | ⟨ns, hx, hl, q⟩⟩ := h
    · refine ⟨_, (pss_one (ps_ret (pe_callTy call_tuple_of (by rfl) n_tuple (by decide +kernel) (pa_cons (pe_callB (cr_sorted2 rfl) (by rfl) n_sorted (by decide +kernel) (pa_cons (pe_callTy (cr_set rfl) (by rfl) n_set (by decide +kernel) (pa_cons (pv 0) pa_nil)) pa_nil)) pa_nil)))), ?_⟩
      exact ⟨_, rfl, rd_lotS hx hl q⟩
    · refine ⟨_, (pss_one (ps_ret (pe_callTy call_tuple_of (by rfl) n_tuple (by decide +kernel) (pa_cons (pe_callB (cr_sorted2 rfl) (by rfl) n_sorted (by decide +kernel) (pa_cons (pe_callTy (cr_set rfl) (by rfl) n_set (by decide +kernel) (pa_cons (pv 0) pa_nil)) pa_nil)) pa_nil)))), ?_⟩
      exact ⟨_, rfl, rd_lotI hx hl q⟩
/-! ### thin_tale -/
abbrev s_thin_tale : Stmt := top 13
theorem sc_thin_tale : FnScope ["tale", "names", "thinned", "lot"] ["tale", "names"] (defScope s_thin_tale) := ⟨rfl, rfl, rfl, by decide +kernel, rfl, by decide +kernel, by decide +kernel⟩
def spThinT (K : PySem.W.Frag) : Sp := fun vs H Q _ => ∃ (v : V) (b : Addr) (t : Tale) (ns : List Str), vs = [v, .ref b] ∧ TalH H v t ∧ SqX K H b (ns.map V.str) ∧ TlOk t ∧ ∀ p H', Same H H' → TalH H' (.ref p) (thinT ns t) → Q (.ref p) H'
theorem ok_thin_tale {f : Addr} {fd : FuncData} (F : Fun K "thin_tale" "thin_tale" s_thin_tale f fd) (C_thin_lot : Cl P w K mg base "thin_lot" ["lot", "names"] [] 1 (spThin K)) (n_tuple : mg "tuple" = none) : FnOk P w K mg base CX0 2 f fd ["tale", "names"] (spThinT K) := by
  refine F.ok sc_thin_tale (fun vs H Q E h => ?_) (fun cdv A outer s H vs Q E hr h => ?_)
  · obtain ⟨_, _, _, _, rfl, _⟩ := h
    rfl
  · obtain ⟨v, b, t, ns, rfl, ht, hb, ok, q⟩ := h
    refine ⟨_, (Evl.pss_cut (ps_setLc (i := 2) (own := [("lot", 3)]) (g := gName 3) (by rfl) sc_thin_tale.nd rfl rfl (sw_true rfl rfl rfl (by decide +kernel)) (pi_seq (pv 0)) (blkOk_by (N := ["tale", "names", "thinned", "lot"]) (sc := defScope s_thin_tale) (by decide +kernel)) (fun _ _ _ _ _ => pg_name (i := 3) sc_thin_tale.nd rfl (Or.inl rfl)) (fun _ _ _ _ _ => pts_nil) (fun _ _ _ _ _ => pe_use C_thin_lot (hr.mono (by decide)) rfl (pa_cons (pv 3) (pa_cons (pv 1) pa_nil))))
    (pss_one (ps_ret (pe_callTy call_tuple_of (by rfl) n_tuple (by decide +kernel) (pa_cons (pe_lc (own := [("lot", 3)]) (g := gName 3) rfl sc_thin_tale.nd (pi_seq (pv 2)) (blkOk_by (N := ["tale", "names", "thinned", "lot"]) (sc := defScope s_thin_tale) (by decide +kernel)) (fun _ _ _ _ _ => pg_name (i := 3) sc_thin_tale.nd rfl (Or.inl rfl)) (fun _ _ _ _ _ => pts_one (pt_truthK K rfl (pv 3) (fun _ => rfl))) (fun _ _ _ _ _ => pv 3)) pa_nil))))), ?_⟩
    obtain ⟨a, its, rfl, ea, al⟩ := id ht
    have l1 := ok.len
    refine ⟨fun σ H' => ∃ (D : Addr) (ys : List V), σ = [some (.ref a), some (.ref b), some (.ref D), none] ∧ Same H H' ∧ H' D = some (.lst ys) ∧ All2 (LotH H') ys (t.map (thinL ns)), ?_, ?_⟩
    · refine ⟨_, rfl, a, its, rfl, SqX.tup ea, fun J S W0 z0 D kD => ?_⟩
      refine lc_mf (ds := t) W0 (fun _ => true) (fun H y l => LotH H y (thinL ns l)) z0 kD al.len (fun i y l H' ey el s m => ?_) (fun H1 ys s1 e1 al1 => ?_)
      · obtain ⟨l', el', hl⟩ := al.get ey
        obtain rfl : l' = l := Option.some.inj (el'.symm.trans el)
        obtain ⟨lb, rfl, elb⟩ := id hl
        refine ⟨rfl, _, rfl, _, rfl, lb, b, l', ns, rfl, SqT.of (s _ _ elb), sqxSame s hb, Nat.le_trans (ok.lot l' (at_mem el)) (by decide), fun p H2 s2 e2 => ?_⟩
        exact mf_yes m kD (fun _ _ _ _ f h => h.fix f) el (by omega) s2 rfl ⟨p, rfl, e2⟩
      · rw [Rd.filter_all] at al1
        exact ⟨D, ys, rfl, s1, e1, al1.of_mapR⟩
    rintro σ H1 ⟨D, ys, rfl, s1, e1, al1⟩
    refine ⟨_, rfl, D, ys, rfl, SqX.lst e1, fun J S W0 z0 D2 kD2 => ?_⟩
    refine lc_mf (ds := t.map (thinL ns)) W0 (fun l => !decide (l = [])) (fun H y l => LotH H y l) z0 kD2 al1.len (fun i y l H' ey el s m => ?_) (fun H2 zs s2 e2 al2 => ?_)
    · obtain ⟨l', el', hl⟩ := al1.get ey
      obtain rfl : l' = l := Option.some.inj (el'.symm.trans el)
      obtain ⟨lb, rfl, elb⟩ := id hl
      refine ⟨rfl, _, rfl, !(l'.map V.str).isEmpty, .inr (.inl ⟨_, SqT.of (s _ _ elb), rfl⟩), ?_⟩
      have lt : (t.map (thinL ns)).length ≤ 100 := by rw [List.length_map]; exact l1
      cases l' with
      | nil => exact mf_no m (fun _ _ _ _ f h => h.fix f) el (Same.refl _) rfl
      | cons x r => exact ⟨_, rfl, mf_yes m kD2 (fun _ _ _ _ f h => h.fix f) el (by omega) (Same.refl _) rfl (hl.same s)⟩
    · refine ⟨D2, zs, rfl, .inl ⟨SqL.of e2, fun p hp => ?_⟩⟩
      have s3 := same_new hp (.tup zs)
      exact q p _ ((s1.trans s2).trans s3) ⟨p, zs, rfl, upd_same, al2.imp fun _ _ r => r.same s3⟩
end
end K6

namespace K6
open PySem PySem.Spec PyProof.Rows L2 Hb St Sq Ow En Zp RZ Rd Xb
/-- a def of the text that may raise, by its promise -/
structure Cx_ (P : Program) (w : World) (K : PySem.W.Frag) (mg : Str → Option Value) (base : Heap) (x : Str) (ps : List Str) (lv : Nat) (sp : Sp) : Prop where
  ex : ∃ (f : Addr) (fd : FuncData), FnOk P w K mg base (L2.CX P w) lv f fd ps sp ∧ mg x = some (.ref f) ∧ PySem.W.keepIn K (.ref f) = true ∧ Binds K fd ps []
theorem pe_useX {X : Cx} {ps : List Str} {lv : Nat} {sp : Sp} {E : L2.St → XK} {x : Str} {p pos : Pos} {e : Expr} {es : List Expr} {t : TA} (C : Cx_ X.prog X.w X.K X.mg X.base x ps lv sp) (hr : Room lv X.A) (hx : ∀ σ, PassesAt (L2.CX X.prog X.w) X σ (E σ)) (hg : Gl X x) (ha : PA X (e :: es) t) (hdb : (x == ("__debug__" : Str)) = false := by decide)
    (he : starEach (e :: es) X.env = (false, eval e X.env) :: starEach es X.env := by rfl) (hpl : (backTo pos (starEach es X.env)).any (·.1) = false := by rfl) : PE X (.Call (.Name x p) (e :: es) [] pos) (tCallS sp E t) :=
  let ⟨_, _, F, hm, hk, hb⟩ := C.ex
  pe_callS F hr hg hm hk hb hx ha hdb he hpl
end K6

namespace K6
open PySem PySem.Spec PyProof.Rows L2 Hb St Sq Ow En Zp RZ Rd Xb Da Lo
def seqD : PyData → Bool
  | .list _ => true
  | .tuple _ => true
  | _ => false
def itemsD : PyData → List PyData
  | .list ds => ds
  | .tuple ds => ds
  | _ => []
theorem kit_seq {K : PySem.W.Frag} {H : Hp} {v : V} {d : PyData} (h : Dp K H v d) : PySem.W.kitAny K (tyD d) [.type "list", .type "tuple"] = some (seqD d) := by
  have e : ∀ t : Value, ∀ b : Bool, PySem.W.kitOne K t (.type "list") = some b → ∀ c : Bool, PySem.W.kitOne K t (.type "tuple") = some c → PySem.W.kitAny K t [.type "list", .type "tuple"] = some (b || c) := fun t b e1 c e2 => by
    unfold PySem.W.kitAny
    rw [e1]
    cases b with
    | true => rfl
    | false =>
      show PySem.W.kitAny K t [.type "tuple"] = _
      unfold PySem.W.kitAny
      rw [e2]
      cases c <;> rfl
  cases h with
  | non => exact e _ false (kit_ty (a := "NoneType") (b := "list") (r := false) (by decide +kernel)) false (kit_ty (a := "NoneType") (b := "tuple") (r := false) (by decide +kernel))
  | bl b => exact e _ false (kit_ty (a := "bool") (b := "list") (r := false) (by decide +kernel)) false (kit_ty (a := "bool") (b := "tuple") (r := false) (by decide +kernel))
  | int i => exact e _ false (kit_ty (a := "int") (b := "list") (r := false) (by decide +kernel)) false (kit_ty (a := "int") (b := "tuple") (r := false) (by decide +kernel))
  | str x => exact e _ false (kit_ty (a := "str") (b := "list") (r := false) (by decide +kernel)) false (kit_ty (a := "str") (b := "tuple") (r := false) (by decide +kernel))
  | lst _ _ => exact e _ true (kit_ty (a := "list") (b := "list") (r := true) (by decide +kernel)) false (kit_ty (a := "list") (b := "tuple") (r := false) (by decide +kernel))
  | tup _ _ => exact e _ false (kit_ty (a := "tuple") (b := "list") (r := false) (by decide +kernel)) true (kit_ty (a := "tuple") (b := "tuple") (r := true) (by decide +kernel))
/-- the first thing that is wrong of what should be tales: -1 for no sequence -/
def toldE (d : PyData) : Option Int := if seqD d = false then some (-1) else (firstNo (itemsD d)).map fun k => ((k : Nat) : Int)
def SmT (d : PyData) : Prop := (itemsD d).length ≤ 1000 ∧ ∀ e ∈ itemsD d, Sm2 e
/-- the tales that are told: a sequence -/
def TalesX (H : Hp) (K : PySem.W.Frag) (v : V) (ts : List Tale) : Prop := ∃ a its, v = .ref a ∧ SqX K H a its ∧ All2 (TalH H) its ts
theorem TalesX.same {H H' : Hp} {K : PySem.W.Frag} {v : V} {ts : List Tale} (h : TalesX H K v ts) (s : Same H H') : TalesX H' K v ts := let ⟨a, its, e, x, al⟩ := h; ⟨a, its, e, sqxSame s x, al.imp fun _ _ r => r.same s⟩
def namesT (ts : List Tale) : List Str := ts.flatMap fun t => t.flatMap id
theorem wk_w {J : It} {a : Addr} {S : Hp → Prop} {xs : List V} (W : Wk J a S xs) (Pv : Nat → Hp → Prop) {H0 : Hp} {Done : Hp → Prop} {Body : V → Hp → (Hp → Prop) → Prop} (h0 : Pv 0 H0) (hS : ∀ i H, Pv i H → S H) (hs : ∀ i x H, xs[i]? = some x → Pv i H → Body x H (Pv (i + 1))) (hd : ∀ H, Pv xs.length H → Done H) :
    ∃ W : Nat → Nat → Hp → Prop, (∃ m, W 0 m H0) ∧ ∀ i m H, W i m H → (J.stop i H ∧ Done H) ∨ (J.go i H ∧ ∃ Nx : Hp → Prop, (∀ H', Nx H' → ∃ m', m' < m ∧ W (i + 1) m' H') ∧ ∀ x H', J.yld i H x H' → Body x H' Nx) := by
  refine ⟨fun i m H => m + i = xs.length ∧ Pv i H, ⟨xs.length, rfl, h0⟩, fun i m H ⟨e, p⟩ => ?_⟩
  cases m with
  | zero =>
    obtain rfl : i = xs.length := by omega
    exact .inl ⟨W.stop H (hS _ _ p), hd H p⟩
  | succ m =>
    have hi : i < xs.length := by omega
    refine .inr ⟨W.go i H hi (hS _ _ p), Pv (i + 1), fun H' p' => ⟨m, Nat.lt_succ_self m, by omega, p'⟩, fun v H' y => ?_⟩
    obtain ⟨rfl, ev⟩ := W.yld i H v H' hi (hS _ _ p) y
    exact hs i v H' ev p
theorem flat_take {α β : Type} (f : α → List β) (l : List α) {i : Nat} {x : α} (h : l[i]? = some x) : (l.take (i + 1)).flatMap f = (l.take i).flatMap f ++ f x := by
  rw [List.take_add_one, h, List.flatMap_append]
  show _ ++ [x].flatMap f = _
  rw [List.flatMap_singleton]
theorem flat_le {α β : Type} (f : α → List β) : ∀ (l : List α) (n : Nat), ((l.take n).flatMap f).length ≤ (l.flatMap f).length
  | l, n => by
    conv => rhs; rw [← List.take_append_drop n l]
    rw [List.flatMap_append, List.length_append]; omega
theorem str_at {ns : List Str} {i : Nat} {y : V} (ey : (ns.map V.str)[i]? = some y) : ∃ x, ns[i]? = some x ∧ y = .str x := by
  rw [List.getElem?_map] at ey
  cases c : ns[i]? with
  | none => rw [c] at ey; cases ey
  | some x => rw [c] at ey; exact ⟨x, rfl, (Option.some.inj ey).symm⟩
section
variable {P : Program} {w : World} {K : PySem.W.Frag} {mg : Str → Option Value} {base : Heap}
/-! ### is_sequence -/
abbrev s_is_sequence : Stmt := top 9
theorem sc_is_sequence : FnScope ["value"] ["value"] (defScope s_is_sequence) := ⟨rfl, rfl, rfl, by decide +kernel, rfl, by decide +kernel, by decide +kernel⟩
def spSeq (K : PySem.W.Frag) : Sp := fun vs H Q _ => ∃ (v : V) (d : PyData), vs = [v] ∧ Dp K H v d ∧ ∀ H', Same H H' → Q (.bl (seqD d)) H'
theorem ok_seq {f : Addr} {fd : FuncData} (F : Fun K "is_sequence" "is_sequence" s_is_sequence f fd) (n_isinstance : mg "isinstance" = none) (n_list : mg "list" = none) (n_tuple : mg "tuple" = none) : FnOk P w K mg base CX0 1 f fd ["value"] (spSeq K) := by
  refine F.ok sc_is_sequence (fun vs H Q E h => ?_) (fun cdv A outer s H vs Q E hr h => ?_)
  · obtain ⟨_, _, rfl, _⟩ := h
    rfl
  · obtain ⟨v, d, rfl, dv, q⟩ := h
    refine ⟨_, (pss_one (ps_ret (pe_callB call_isiT (by rfl) n_isinstance (by decide +kernel) (pa_cons (pv 0) (pa_cons (pe_tup (pa_cons (pe_bltn (v := .ty "list") (by rfl) n_list (by decide +kernel) rfl) (pa_cons (pe_bltn (v := .ty "tuple") (by rfl) n_tuple (by decide +kernel) rfl) pa_nil))) pa_nil))))), ?_⟩
    refine ⟨_, rfl, by show 2 ≤ sizeLine; decide, fun t ht => ?_⟩
    have s1 := same_new ht (.tup [V.ty "list", V.ty "tuple"])
    exact ⟨v, t, _, tyD d, _, seqD d, rfl, upd_same, .cons (.ty "list") (.cons (.ty "tuple") .nil), ty_dp (dp_same s1 dv), kit_seq dv, q _ s1⟩
/-! ### need_told -/
abbrev s_need_told : Stmt := top 21
theorem sc_need_told : FnScope ["tales"] ["tales"] (defScope s_need_told) := ⟨rfl, rfl, rfl, by decide +kernel, rfl, by decide +kernel, by decide +kernel⟩
def spNeedT (K : PySem.W.Frag) (C : Addr) : Sp := fun vs H Q E => ∃ (v : V) (d : PyData), vs = [v] ∧ Dp K H v d ∧ SmT d ∧ (toldE d = none → ∀ H', Same H H' → Q .non H') ∧
  ∀ k, toldE d = some k → ∀ dd H', Same H H' → H' dd = some (errH k) → E (.ref C) (some dd) H'
theorem ok_told {f fn C fI : Addr} {fd : FuncData} (F : Fun K "need_told" "need_told" s_need_told f fd) (N : FnR P w K mg base (L2.CX P w) 4 fn (spNeedR K C)) (gN : mg "need_tales" = some (.ref fn)) (kN : PySem.W.keepIn K (.ref fn) = true) (T : ErrC K mg "InvalidHeard" C fI) (C_is_sequence : Cl P w K mg base "is_sequence" ["value"] [] 1 (spSeq K)) : FnOk P w K mg base (L2.CX P w) 5 f fd ["tales"] (spNeedT K C) := by
  refine F.okX sc_need_told (fun vs H Q E h => ?_) (fun cdv A outer s H vs Q E hr h => ?_)
  · obtain ⟨_, _, rfl, _⟩ := h
    rfl
  · obtain ⟨v, d, rfl, dv, sm, q, qe⟩ := h
    refine ⟨_, (Evl.pss_cut (ps_if (pt_not (pt_val (pe_use C_is_sequence (hr.mono (by decide)) rfl (pa_cons (pv 0) pa_nil)))) (pss_one (ps_raiseAt rfl T hr (takes_of rfl rfl rfl rfl) (pa_cons (pe_un un_neg pe_int) pa_nil) rfl)) pss_nil)
    (pss_one (ps_expr (StX.pe_callS1 N (hr.mono (by decide)) kN rfl gN (passes_call (takes_of rfl rfl rfl rfl) (fun _ _ _ _ h => h)) (pv 0))))), ?_⟩
    refine ⟨fun σ H' => σ = [some v] ∧ Same H H' ∧ seqD d = true, ?_, ?_⟩
    · refine ⟨_, rfl, v, d, rfl, dv, fun H1 s1 => ⟨_, rfl, ?_⟩⟩
      cases c : seqD d with
      | true => exact iteF ⟨rfl, s1, rfl⟩
      | false =>
        refine iteT ⟨_, rfl, _, rfl, fun dd hn => ?_⟩
        refine qe (-1) ?_ dd _ (s1.trans (same_new hn _)) upd_same
        unfold toldE
        rw [if_pos c]
    rintro σ H1 ⟨rfl, s1, c⟩
    obtain ⟨a, its, rfl, hx, al⟩ : ∃ a its, v = .ref a ∧ (SqT K H1 a its ∨ SqL K H1 a its) ∧ All2 (Dp K H1) its (itemsD d) := by
      cases dp_same s1 dv with
      | lst h a => exact ⟨_, _, rfl, .inr h, dpa_all a⟩
      | tup h a => exact ⟨_, _, rfl, .inl h, dpa_all a⟩
      | non => cases c
      | bl b => cases c
      | int i => cases c
      | str x => cases c
    have e : toldE d = (firstNo (itemsD d)).map fun k => ((k : Nat) : Int) := by
      unfold toldE
      rw [if_neg (by rw [c]; decide)]
    have li := al.len
    have l1 := sm.1
    refine ⟨_, rfl, a, its, rfl, hx, [], its, rfl, rfl, by rw [sizeLine_eq]; omega, fun p hp => ?_⟩
    have s2 := same_new hp (.tup its)
    refine ⟨p, its, itemsD d, rfl, upd_same, al.imp fun _ _ r => dp_same s2 r, sm.1, sm.2, fun no H3 s3 => ?_, fun k hk dd H3 s3 ed => ?_⟩
    · exact q (by rw [e, no]; rfl) _ ((s1.trans s2).trans s3)
    · exact qe (k : Nat) (by rw [e, hk]; rfl) dd _ ((s1.trans s2).trans s3) ed
end
end K6

namespace K6
open PySem PySem.Spec PyProof.Rows L2 Hb St Sq Ow En Zp RZ Rd Xb Da Lo
/-! ### sorted of a list whose items stand for things -/
theorem zip_fst {α β : Type} {R : α → β → Prop} {as : List α} {bs : List β} (h : All2 R as bs) : (as.zip bs).map (·.1) = as := by
  induction h with
  | nil => rfl
  | cons _ _ ih => simpa using ih
theorem zip_snd {α β : Type} {R : α → β → Prop} {as : List α} {bs : List β} (h : All2 R as bs) : (as.zip bs).map (·.2) = bs := by
  induction h with
  | nil => rfl
  | cons _ _ ih => simpa using ih
theorem zip_mem {α β : Type} {R : α → β → Prop} {as : List α} {bs : List β} (h : All2 R as bs) : ∀ z ∈ as.zip bs, R z.1 z.2 ∧ z.2 ∈ bs := by
  induction h with
  | nil => intro z hz; cases hz
  | cons r _ ih =>
    intro z hz
    rw [List.zip_cons_cons] at hz
    rcases List.mem_cons.mp hz with rfl | hz
    · exact ⟨r, List.mem_cons_self ..⟩
    · exact ⟨(ih z hz).1, List.mem_cons_of_mem _ (ih z hz).2⟩
theorem all2_maps {α β γ : Type} {R : α → β → Prop} {f : γ → α} {g : γ → β} : ∀ {zs : List γ}, (∀ z ∈ zs, R (f z) (g z)) → All2 R (zs.map f) (zs.map g)
  | [], _ => .nil
  | z :: zs, h => .cons (h z (List.mem_cons_self ..)) (all2_maps fun y hy => h y (List.mem_cons_of_mem _ hy))
theorem srt_pairs {γ : Type} {enc : γ → PyData} {R : V → γ → Prop} {its : List V} {gs : List γ} (al : All2 R its gs) : All2 R ((((its.zip gs).map fun z => (z.1, enc z.2)).mergeSort (PySem.W.dataLe false (·.2))).map (·.1)) (gs.mergeSort (PySem.W.dataLe false enc)) := by
  let f : V × γ → V × PyData := fun z => (z.1, enc z.2)
  let r : V × γ → V × γ → Bool := fun a b => PySem.W.dataLe false enc a.2 b.2
  have m1 : ((its.zip gs).map f).mergeSort (PySem.W.dataLe false (·.2)) = ((its.zip gs).mergeSort r).map f := (List.map_mergeSort (f := f) (r := r) fun a _ b _ => rfl).symm
  have m2 : gs.mergeSort (PySem.W.dataLe false enc) = ((its.zip gs).mergeSort r).map (·.2) := by
    conv => lhs; rw [← zip_snd al]
    exact (List.map_mergeSort (f := fun z : V × γ => z.2) (r := r) fun a _ b _ => rfl).symm
  rw [m1, m2, List.map_map]
  exact all2_maps fun z hz => (zip_mem al z ((List.mergeSort_perm _ _).mem_iff.mp hz)).1
theorem sort_all {γ : Type} {enc : γ → PyData} {R : V → γ → Prop} {K : PySem.W.Frag} {H : Hp} {a : Addr} {its : List V} {gs : List γ} {Q : VK} (e : H a = some (.lst its)) (al : All2 R its gs) (dp : ∀ v g, R v g → Dp K H v (enc g)) (dep : ∀ g ∈ gs, (enc g).depth ≤ 20)
    (alk : ∀ x y, PySem.W.alike (enc x) (enc y) = true) (hk : PySem.W.Sortable (gs.map enc) ∨ PySem.W.Tup0 (gs.map enc)) (q : ∀ p its' H', Same H H' → H' p = some (.lst its') → All2 R its' (gs.mergeSort (PySem.W.dataLe false enc)) → Q (.ref p) H') : rSortD K [.ref a] H Q := by
  let f : V × γ → V × PyData := fun z => (z.1, enc z.2)
  have e1 : ((its.zip gs).map f).map (·.1) = its := by rw [List.map_map]; exact zip_fst al
  have e2 : ((its.zip gs).map f).map (·.2) = gs.map enc := by
    rw [List.map_map]
    conv => rhs; rw [← zip_snd al]
    rw [List.map_map]; rfl
  refine ⟨a, (its.zip gs).map f, rfl, SqL.of (by rw [e1]; exact e), fun b hb => ?_, ?_, by rw [e2]; exact hk, fun p hp => ?_⟩
  · obtain ⟨z, hz, rfl⟩ := List.mem_map.mp hb
    obtain ⟨r, m⟩ := zip_mem al z hz
    exact ⟨dp _ _ r, dep _ m⟩
  · rw [e2]
    intro d hd d' hd'
    obtain ⟨x, _, rfl⟩ := List.mem_map.mp hd
    obtain ⟨y, _, rfl⟩ := List.mem_map.mp hd'
    exact alk x y
  · exact q p _ _ (same_new hp _) upd_same (srt_pairs al)
/-- a list of lots -/
def LosH (H : Hp) (a : Addr) (ls : List Lot) : Prop := ∃ its, H a = some (.lst its) ∧ All2 (LotH H) its ls
theorem LosH.same {H H' : Hp} {a : Addr} {ls : List Lot} (h : LosH H a ls) (s : Same H H') : LosH H' a ls := let ⟨its, e, al⟩ := h; ⟨its, s _ _ e, al.imp fun _ _ r => r.same s⟩
theorem dep_lD (l : Lot) : (lD l).depth ≤ 20 := by
  have : ∀ l : List Str, PyData.depthAll (l.map PyData.str) = 0 := fun l => by
    induction l with
    | nil => rfl
    | cons x r ih =>
      show max (PyData.depth (.str x)) (PyData.depthAll (r.map .str)) = 0
      rw [ih]; rfl
  show PyData.depthAll (l.map PyData.str) + 1 ≤ 20
  rw [this]; decide
theorem dep_kD (l : Lot) : (kD l).depth ≤ 20 := by
  have h := dep_lD l
  have : ∀ l : List Str, PyData.depthAll (l.map PyData.str) = 0 := fun l => by
    induction l with
    | nil => rfl
    | cons x r ih =>
      show max (PyData.depth (.str x)) (PyData.depthAll (r.map .str)) = 0
      rw [ih]; rfl
  show max 0 (max (PyData.depthAll (l.map PyData.str) + 1) 0) + 1 ≤ 20
  rw [this]; decide
theorem foldl_take {α β : Type} (f : β → α → β) (b : β) (l : List α) {i : Nat} {x : α} (h : l[i]? = some x) : (l.take (i + 1)).foldl f b = f ((l.take i).foldl f b) x := by
  rw [List.take_add_one, h, List.foldl_append]; rfl
theorem tup0_lots {ls : List Lot} (h : ∃ r, ls = [] :: r) : PySem.W.Tup0 (ls.map lD) := by
  obtain ⟨r, rfl⟩ := h
  refine ⟨fun d hd => ?_, r.map lD, rfl⟩
  obtain ⟨z, _, rfl⟩ := List.mem_map.mp hd
  exact ⟨_, rfl⟩
theorem LL_small {ns : List Str} (h : ns.length ≤ 4) : ∀ i, ((ns.take i).foldl growP [[]]).length ≤ 16 := fun i => by
  have := growP_len (ns.take i) [[]]
  have h2 : 2 ^ (ns.take i).length ≤ 2 ^ 4 := Nat.pow_le_pow_right (by decide) (by rw [List.length_take]; omega)
  rw [this]
  simpa using h2
theorem LosH.kept {H H' : Hp} {a p : Addr} {ls : List Lot} (h : LosH H a ls) (n : a ≠ p) (k : Kept p H H') (t : TupK H H') : LosH H' a ls := let ⟨its, e, al⟩ := h; ⟨its, k _ _ e n, al.imp fun _ _ r => r.on t⟩
theorem any_map {α : Type} (f : α → Bool) (l : List α) : (l.map f).any id = l.any f := by rw [List.any_map]; rfl
end K6

/-! comprehensions whose items draw from a box; texts without doubles -/
namespace Lg
open PySem PySem.Spec PyProof.Rows L2 Hb St Sq
/-- a comprehension: M stands ahead of the i-th item -/
theorem lc_go {J : It} {a : Addr} {S : Hp → Prop} {xs : List V} (W : Wk J a S xs) {g : TG} {tt : TT} {te : TE} {vs : List Nat} {σ : L2.St} {H1 : Hp} {D : Addr} {Qd : Hp → Prop} (M : Nat → Hp → Prop)
    (h0 : M 0 (upd H1 D (.lst []))) (stand : ∀ i H, M i H → S H)
    (hs : ∀ i x H, xs[i]? = some x → M i H → g x (wipe σ vs) H fun σ2 H2 => wipe σ2 vs = wipe σ vs ∧ tt σ2 H2 fun b H3 =>
      if b = true then te σ2 H3 fun y H4 => ∃ acc, H4 D = some (.lst acc) ∧ acc.length < sizeLine ∧ M (i + 1) (upd H4 D (.lst (acc ++ [y]))) else M (i + 1) H3)
    (hd : ∀ H, M xs.length H → Qd H) :
    ∃ W : Nat → Nat → Hp → Prop, (∃ m, W 0 m (upd H1 D (.lst []))) ∧ ∀ i m H, W i m H →
      (J.stop i H ∧ Qd H) ∨ (J.go i H ∧ ∃ Nx : Hp → Prop, (∀ H', Nx H' → ∃ m', m' < m ∧ W (i + 1) m' H') ∧ ∀ v H', J.yld i H v H' → g v (wipe σ vs) H' fun σ2 H2 => wipe σ2 vs = wipe σ vs ∧ tt σ2 H2 fun b H3 =>
        if b = true then te σ2 H3 fun y H4 => ∃ acc, H4 D = some (.lst acc) ∧ acc.length < sizeLine ∧ Nx (upd H4 D (.lst (acc ++ [y]))) else Nx H3) := by
  refine ⟨fun i m H => m + i = xs.length ∧ M i H, ⟨xs.length, rfl, h0⟩, fun i m H ⟨e, p⟩ => ?_⟩
  cases m with
  | zero =>
    obtain rfl : i = xs.length := by omega
    exact .inl ⟨W.stop H (stand _ _ p), hd H p⟩
  | succ m =>
    have hi : i < xs.length := by omega
    refine .inr ⟨W.go i H hi (stand _ _ p), M (i + 1), fun H' p' => ⟨m, Nat.lt_succ_self m, by omega, p'⟩, fun v H' y => ?_⟩
    obtain ⟨rfl, ev⟩ := W.yld i H v H' hi (stand _ _ p) y
    exact hs i v H' ev p
theorem sub_yes {α : Type} {xs ns : List α} {i : Nat} {x : α} (s : xs.Sublist (ns.take i)) (e : ns[i]? = some x) : (xs ++ [x]).Sublist (ns.take (i + 1)) := by
  rw [List.take_add_one, e]
  exact s.append (List.Sublist.refl _)
theorem sub_no {α : Type} {xs ns : List α} {i : Nat} (s : xs.Sublist (ns.take i)) : xs.Sublist (ns.take (i + 1)) := by
  rw [List.take_add_one]
  exact s.trans (List.sublist_append_left _ _)
end Lg

namespace K6
open PySem PySem.Spec PyProof.Rows L2 Hb St Sq Ow En Zp RZ Rd Xb Da Lo Cq LamX Lc Lp Lg
local macro_rules | `(tactic| walk_at "sd") => `(tactic| (first
  | decide
  | exact ⟨by decide, by decide⟩
  | exact ⟨by decide, by decide, by decide⟩
  | exact Or.inl ⟨by decide, by decide⟩
  | exact Or.inr ⟨by decide, by decide⟩
  | exact divw (by decide) (by decide)
  | exact divw (by omega) (by omega)
  | exact Or.inl ⟨by omega, by omega⟩
  | exact Or.inr ⟨by omega, by omega⟩
  | (show (0 : Int) < _; omega)))
local macro_rules | `(tactic| walk_at "sq") => `(tactic| (first | exact SqT.of (by assumption) | exact SqL.of (by assumption) | exact SqL.of upd_same | assumption))
local macro_rules | `(tactic| walk_at "rd") => `(tactic| repeat (first
  | refine ⟨_, rfl, ?_⟩
  | refine ⟨_, _, rfl, rfl, (by walk_at "sd"), ?_⟩
  | refine ⟨_, _, rfl, rfl, ?_⟩
  | refine ⟨_, _, _, _, rfl, rfl, (by walk_at "sq"), rfl, ?_⟩
  | refine ⟨_, _, _, _, rfl, rfl, (by first | assumption | exact upd_same), rfl, ?_⟩
  | refine ⟨_, _, rfl, Or.inl (by walk_at "sq"), ?_⟩
  | refine ⟨_, _, rfl, ?_⟩
  | refine Or.inl ⟨_, rfl, ?_⟩
  | refine ⟨rfl, ?_⟩))
/-! ### the box of draws -/
def BoxAt (H : Hp) (p : Addr) : Prop := ∃ g s n : Int, H p = some (.lst [.int g, .int s, .int n]) ∧ 0 ≤ g ∧ (0 ≤ s ∧ s < 2 ^ 40)
theorem BoxAt.same {H H' : Hp} {p : Addr} (s : Same H H') (h : BoxAt H p) : BoxAt H' p := let ⟨g, t, n, e, r⟩ := h; ⟨g, t, n, s _ _ e, r⟩
theorem BoxAt.ne {H : Hp} {p b : Addr} (h : BoxAt H p) (e : H b = none) : b ≠ p := fun z => by obtain ⟨_, _, _, e2, _⟩ := h; rw [z, e2] at e; cases e
theorem BoxAt.neT {H : Hp} {p b : Addr} {xs : List V} (h : BoxAt H p) (e : H b = some (.tup xs)) : b ≠ p := fun z => by obtain ⟨_, _, _, e2, _⟩ := h; rw [z, e2] at e; cases e
theorem BoxAt.kept {H H' : Hp} {p : Addr} (b : BoxAt H p) (k : Kept p H H') : TupK H H' := fun c xs e => k _ _ e (b.neT e)
section
variable {P : Program} {w : World} {K : PySem.W.Frag} {mg : Str → Option Value} {base : Heap}
/-! ### _law_take -/
abbrev s__law_take : Stmt := top 39
theorem sc__law_take : FnScope ["box", "many", "digit", "raw"] ["box", "many"] (defScope s__law_take) := ⟨rfl, rfl, rfl, by decide +kernel, rfl, by decide +kernel, by decide +kernel⟩
def spTake : Sp := fun vs H Q _ => ∃ (p : Addr) (many : Int), vs = [.ref p, .int many] ∧ (1 ≤ many ∧ many < 2 ^ 30) ∧ BoxAt H p ∧ ∀ d H', 0 ≤ d → d < many → Kept p H H' → BoxAt H' p → Q (.int d) H'
theorem ok_take {f : Addr} {fd : FuncData} (F : Fun K "_law_take" "_law_take" s__law_take f fd) (n_int : mg "int" = none) : FnOk P w K mg base CX0 1 f fd ["box", "many"] spTake := by
  refine F.ok sc__law_take (fun vs H Q E h => ?_) (fun cdv A outer s H vs Q E hr h => ?_)
  · obtain ⟨_, _, rfl, _⟩ := h
    rfl
  · obtain ⟨p, many, rfl, hm, ⟨g, s, n, hp, g0, s0⟩, q⟩ := h
    refine ⟨_, (Evl.pss_cut (ps_if (pt_cmpR op_gt (pe_ix ix_list (pv 0) pe_int (fun _ _ => rfl)) pe_int (nomark _)) (pss_cons (ps_set (i := 2) sc__law_take.nd rfl (Or.inl rfl) (pe_op op_mod (pe_callTy call_int1 (by rfl) n_int (by decide +kernel) (pa_cons (pe_ix ix_list (pv 0) pe_int (fun _ _ => rfl)) pa_nil)) (pv 1)))
    (pss_cons (ps_asg (pe_op op_fdivW (pe_ix ix_list (pv 0) pe_int (fun _ _ => rfl)) (pv 1)) (pg_sub (pv 0) pe_int set_list))
    (pss_one (ps_ret (pv 2))))) pss_nil)
    (pss_cons (ps_asg (pe_op op_add (pe_ix ix_list (pv 0) pe_int (fun _ _ => rfl)) pe_int) (pg_sub (pv 0) pe_int set_list))
    (pss_cons (ps_set (i := 3) sc__law_take.nd rfl (Or.inl rfl) (pe_op op_mod (pe_callTy call_int1 (by rfl) n_int (by decide +kernel) (pa_cons (pe_op op_add (pe_op op_mul (pe_op op_add (pe_ix ix_list (pv 0) pe_int (fun _ _ => rfl)) (pe_op op_mul pe_int (pe_ix ix_list (pv 0) pe_int (fun _ _ => rfl)))) pe_int) pe_int) pa_nil)) pe_int))
    (pss_cons (ps_asg (pe_op op_add (pe_op op_mod (pe_callTy call_int1 (by rfl) n_int (by decide +kernel) (pa_cons (pe_op op_add (pe_op op_mul (pv 3) pe_int) pe_int) pa_nil)) pe_int) pe_int) (pg_sub (pv 0) pe_int set_list))
    (pss_one (ps_ret (pe_op op_mod (pe_callTy call_int1 (by rfl) n_int (by decide +kernel) (pa_cons (pe_op op_fdivW (pe_op op_add (pe_op op_mul (pv 3) pe_int) (pe_ix ix_list (pv 0) pe_int (fun _ _ => rfl))) pe_int) pa_nil)) (pv 1)))))))), ?_⟩
    refine ⟨fun σ H' => σ = [some (.ref p), some (.int many), none, none] ∧ H' = H, ?_, ?_⟩
    · walk_at "rd"
      refine iteD (fun c => ?_) (fun c => ?_)
      · walk_at "rd"
        exact q _ _ (Int.emod_nonneg _ (by omega)) (Int.emod_lt_of_pos _ (by omega)) kept_upd ⟨_, _, _, upd_same, Int.ediv_nonneg g0 (by omega), s0⟩
      · exact ⟨rfl, rfl⟩
    rintro σ H' ⟨rfl, rfl⟩
    walk_at "rd"
    refine q _ _ (Int.emod_nonneg _ (by omega)) (Int.emod_lt_of_pos _ (by omega)) (fun b o e nb => by rw [upd_ne nb, upd_ne nb]; exact e) ⟨_, _, _, upd_same, g0, ⟨?_, ?_⟩⟩
    · have := Int.emod_nonneg (((s + 88741 * (n + 1)) * 65071 + 31) % 2147483563 * 40013 + 31321) (show (2147483629 : Int) ≠ 0 by decide)
      omega
    · have := Int.emod_lt_of_pos (((s + 88741 * (n + 1)) * 65071 + 31) % 2147483563 * 40013 + 31321) (show (0 : Int) < 2147483629 by decide)
      omega
/-! ### _law_box -/
abbrev s__law_box : Stmt := top 38
theorem sc__law_box : FnScope ["script", "k", "cell"] ["script", "k"] (defScope s__law_box) := ⟨rfl, rfl, rfl, by decide +kernel, rfl, by decide +kernel, by decide +kernel⟩
def spBox (K : PySem.W.Frag) : Sp := fun vs H Q _ => ∃ (a : Addr) (ns : List Int) (k : Int), vs = [.ref a, .int k] ∧ (0 ≤ k ∧ k ≤ 100) ∧ SqL K H a (ns.map V.int) ∧ ns.length ≤ 63 ∧ ∀ p H', H p = none → Same H H' → BoxAt H' p → Q (.ref p) H'
theorem at_int {ns : List Int} {k : Int} (h0 : 0 ≤ k) (h : k < (ns.length : Int)) : ∃ v : Int, atI (ns.map V.int) k = some (.int v) := by
  have hk : k.toNat < ns.length := by omega
  have ek : k = ((k.toNat : Nat) : Int) := by omega
  have q : atI (ns.map V.int) ((k.toNat : Nat) : Int) = some (.int ns[k.toNat]) := atI_nat (by rw [List.getElem?_map, List.getElem?_eq_getElem hk] <;> rfl)
  rw [← ek] at q
  exact ⟨_, q⟩
theorem abs_nn (i : Int) : 0 ≤ (if i < 0 then -i else i) := by
  by_cases h : i < 0
  · rw [if_pos h]; omega
  · rw [if_neg h]; omega
theorem ok_box {f : Addr} {fd : FuncData} (F : Fun K "_law_box" "_law_box" s__law_box f fd) (n_abs : mg "abs" = none) (n_int : mg "int" = none) (n_len : mg "len" = none) : FnOk P w K mg base CX0 1 f fd ["script", "k"] (spBox K) := by
  refine F.ok sc__law_box (fun vs H Q E h => ?_) (fun cdv A outer s H vs Q E hr h => ?_)
  · obtain ⟨_, _, _, rfl, _⟩ := h
    rfl
  · obtain ⟨a, ns, k, rfl, hk, hS, hl, q⟩ := h
    refine ⟨_, (pss_cons (ps_set (i := 2) sc__law_box.nd rfl (Or.inl rfl) (pe_op op_add (pe_op op_mul pe_int (pv 1)) pe_int))
    (Evl.pss_cut (ps_if (pt_cmpR op_lt (pv 1) (pe_callB call_len_seq (by rfl) n_len PySem.boot_len (pa_cons (pv 0) pa_nil)) (nomark _)) (pss_one (ps_set (i := 2) sc__law_box.nd rfl (Or.inl rfl) (pe_callB call_abs (by rfl) n_abs (by decide +kernel) (pa_cons (pe_ix ix_list (pv 0) (pv 1) (fun _ _ => rfl)) pa_nil)))) (pss_one (ps_if (pt_cmpR op_gt (pe_callB call_len_seq (by rfl) n_len PySem.boot_len (pa_cons (pv 0) pa_nil)) pe_int (nomark _)) (pss_one (ps_set (i := 2) sc__law_box.nd rfl (Or.inl rfl) (pe_op op_add (pv 2) (pe_op op_mul (pe_op op_mod (pe_callTy call_int1 (by rfl) n_int (by decide +kernel) (pa_cons (pe_callB call_abs (by rfl) n_abs (by decide +kernel) (pa_cons (pe_ix ix_list (pv 0) (pe_op op_mod (pe_callTy call_int1 (by rfl) n_int (by decide +kernel) (pa_cons (pv 1) pa_nil)) (pe_callB call_len_seq (by rfl) n_len PySem.boot_len (pa_cons (pv 0) pa_nil))) (fun _ _ => rfl)) pa_nil)) pa_nil)) pe_int) pe_int)))) pss_nil)))
    (pss_one (ps_ret (pe_lst (pa_cons (pe_ix ix_list (pe_lst (pa_cons pe_int (pa_cons (pv 2) pa_nil))) (pe_callTy call_int1 (by rfl) n_int (by decide +kernel) (pa_cons (pe_cmpR op_ge (pv 2) (pe_op op_pow pe_int pe_int) (nomark _)) pa_nil)) (fun _ _ => rfl)) (pa_cons (pe_op op_add (pe_op op_mod (pe_callTy call_int1 (by rfl) n_int (by decide +kernel) (pa_cons (pe_op op_add (pe_op op_mul (pe_op op_mod (pe_callTy call_int1 (by rfl) n_int (by decide +kernel) (pa_cons (pv 2) pa_nil)) pe_int) pe_int) (pe_op op_mul pe_int (pv 1))) pa_nil)) pe_int) pe_int) (pa_cons pe_int pa_nil)))))))), ?_⟩
    walk_at "rd"
    refine ⟨fun σ H' => ∃ c : Int, σ = [some (.ref a), some (.int k), some (.int c)] ∧ H' = H ∧ 0 ≤ c, ?_, ?_⟩
    · walk_at "rd"
      rw [List.length_map]
      refine iteD (fun c => ?_) (fun c => ?_)
      · obtain ⟨v, hv⟩ := at_int hk.1 c
        refine ⟨_, rfl, _, rfl, _, _, _, _, rfl, rfl, hS, hv, _, rfl, _, rfl, rfl, abs_nn v⟩
      · walk_at "rd"
        refine iteD (fun c2 => ?_) (fun c2 => ?_)
        · rw [List.length_map] at c2
          obtain ⟨v, hv⟩ := at_int (ns := ns) (k := k % (ns.length : Int)) (Int.emod_nonneg _ (by omega)) (Int.emod_lt_of_pos _ (by omega))
          refine ⟨_, rfl, _, rfl, _, rfl, .inl ⟨_, rfl, _, rfl, _, _, rfl, .inl hS, _, _, rfl, rfl, ?_, _, _, _, V.int v, rfl, rfl, hS, ?_, ?_⟩⟩
          · rw [List.length_map]; exact c2
          · rw [List.length_map]; exact hv
          · walk_at "rd"
            have := Int.emod_nonneg (if v < 0 then -v else v) (show (2147483629 : Int) ≠ 0 by decide)
            omega
        · exact ⟨_, rfl, rfl, by omega⟩
    rintro σ H' ⟨c, rfl, rfl, hc⟩
    have fin : ∀ (g : Int) (lp : Addr) (H2 : Hp), 0 ≤ g → Same H' H2 → ∀ p, H2 p = none → Q (.ref p) (upd H2 p (.lst [.int g, .int ((c % 2147483629 * 44501 + 52817 * k) % 2147483629 + 1), .int 0])) := fun g lp H2 g0 s2 p hp => by
      refine q p _ ?_ (s2.trans (same_new hp _)) ⟨g, _, _, upd_same, g0, ⟨?_, ?_⟩⟩
      · cases e : H' p with
        | none => rfl
        | some o => rw [s2 _ _ e] at hp; cases hp
      · have := Int.emod_nonneg (c % 2147483629 * 44501 + 52817 * k) (show (2147483629 : Int) ≠ 0 by decide)
        omega
      · have := Int.emod_lt_of_pos (c % 2147483629 * 44501 + 52817 * k) (show (0 : Int) < 2147483629 by decide)
        omega
    refine ⟨_, rfl, by show 2 ≤ sizeLine; decide, fun lp klp => ?_⟩
    have s2 := same_new klp (.lst [V.int 0, V.int c])
    have e2 : upd H' lp (.lst [V.int 0, V.int c]) lp = some (.lst [V.int 0, V.int c]) := upd_same
    generalize upd H' lp (.lst [V.int 0, V.int c]) = H2 at s2 e2 ⊢
    refine ⟨_, rfl, _, _, rfl, rfl, ⟨by decide, by decide, by decide⟩, _, _, rfl, rfl, .inr ⟨_, rfl, ?_⟩⟩
    by_cases c2 : (10 : Int) ^ (Int.toNat 18) ≤ c
    · rw [decide_eq_true c2]
      refine ⟨lp, _, 1, .int c, rfl, rfl, SqL.of e2, at1, ?_⟩
      walk_at "rd"
      exact ⟨by show 3 ≤ sizeLine; decide, fun p hp => fin c lp H2 hc s2 p hp⟩
    · rw [decide_eq_false c2]
      refine ⟨lp, _, 0, .int 0, rfl, rfl, SqL.of e2, at0, ?_⟩
      walk_at "rd"
      exact ⟨by show 3 ≤ sizeLine; decide, fun p hp => fin 0 lp H2 (Int.le_refl 0) s2 p hp⟩
end
end K6

namespace K6
open PySem PySem.Spec PyProof.Rows L2 Hb St Sq Ow En Zp RZ Rd Xb Da Lo Cq LamX Lc Lp Lg
/-! ### names -/
structure NsOk (ns : List Str) : Prop where
  asc : ns.Pairwise sLt
  ne : ns ≠ []
  ln : ns.length ≤ 4
  nm : ∀ x ∈ ns, IsNm x
def nameC (ahead : Bool) (c : Nat) (stem : Str) : Str := if ahead = true then (⟨#[c]⟩ : Str) ++ stem else stem ++ ⟨#[c]⟩
theorem cps_app (a b : Str) : (a ++ b).cps.toList = a.cps.toList ++ b.cps.toList := Array.toList_append
theorem nameC_inj {ahead : Bool} {c d : Nat} {stem : Str} (h : nameC ahead c stem = nameC ahead d stem) : c = d := by
  unfold nameC at h
  cases ahead with
  | true =>
    rw [if_pos rfl, if_pos rfl] at h
    have := congrArg (fun s : Str => s.cps.toList) h
    simp only [cps_app] at this
    have e : ∀ c : Nat, (⟨#[c]⟩ : Str).cps.toList = [c] := fun _ => rfl
    rw [List.singleton_append, List.singleton_append] at this
    exact (List.cons.inj this).1
  | false =>
    rw [if_neg (by decide), if_neg (by decide)] at h
    have := congrArg (fun s : Str => s.cps.toList) h
    simp only [cps_app] at this
    have e : ∀ c : Nat, (⟨#[c]⟩ : Str).cps.toList = [c] := fun _ => rfl
    have := List.append_cancel_left this
    exact (List.cons.inj this).1
def StemOk (x : Str) : Prop := x.length ≤ 7 ∧ ∀ c ∈ x.cps.toList, 97 ≤ c ∧ c < 123
theorem nameC_nm {ahead : Bool} {c : Nat} {stem : Str} (h : StemOk stem) (hc : 97 ≤ c ∧ c < 123) : IsNm (nameC ahead c stem) := by
  have ln : ∀ a b : Str, (a ++ b).length = a.length + b.length := fun _ _ => Array.size_append
  have e1 : (⟨#[c]⟩ : Str).length = 1 := rfl
  have e2 : (⟨#[c]⟩ : Str).cps.toList = [c] := rfl
  have h7 := h.1
  unfold nameC
  cases ahead with
  | true =>
    rw [if_pos rfl]
    refine ⟨by rw [ln, e1]; omega, by rw [ln, e1]; omega, fun d hd => ?_⟩
    rw [cps_app, e2] at hd
    rcases List.mem_append.mp hd with hd | hd
    · rw [List.mem_singleton.mp hd]; exact hc
    · exact h.2 d hd
  | false =>
    rw [if_neg (by decide)]
    refine ⟨by rw [ln, e1]; omega, by rw [ln, e1]; omega, fun d hd => ?_⟩
    rw [cps_app, e2] at hd
    rcases List.mem_append.mp hd with hd | hd
    · exact h.2 d hd
    · rw [List.mem_singleton.mp hd]; exact hc
theorem abc_at : ∀ d : Nat, d < 26 → atI (("abcdefghijklmnopqrstuvwxyz" : Str).cps.toList) (d : Int) = some (97 + d) := by decide +kernel
theorem stem_ok : ∀ x ∈ [(Str.ofString "" : Str), Str.ofString "", Str.ofString "a", Str.ofString "zq", Str.ofString "bellrin"], StemOk x := by
  intro x hx
  have : ∀ x ∈ [(Str.ofString "" : Str), Str.ofString "", Str.ofString "a", Str.ofString "zq", Str.ofString "bellrin"], (decide (x.length ≤ 7) && x.cps.toList.all fun c => decide (97 ≤ c) && decide (c < 123)) = true := by decide +kernel
  have := this x hx
  simp only [Bool.and_eq_true, decide_eq_true_eq, List.all_eq_true] at this
  exact this
/-- the k-th letter -/
def letN (start step : Int) (k : Nat) : Nat := 97 + ((start + step * (k : Nat)) % 26).toNat
theorem letN_ok {start step : Int} {k : Nat} : 97 ≤ letN start step k ∧ letN start step k < 123 := by
  unfold letN
  have h1 := Int.emod_nonneg (start + step * (k : Nat)) (show (26 : Int) ≠ 0 by decide)
  have h2 := Int.emod_lt_of_pos (start + step * (k : Nat)) (show (0 : Int) < 26 by decide)
  omega
theorem letN_inj {start step : Int} (hs : step = 1 ∨ step = 3 ∨ step = 5 ∨ step = 7 ∨ step = 9) {j k : Nat} (hj : j < 4) (hk : k < 4) (h : letN start step j = letN start step k) : j = k := by
  unfold letN at h
  have a1 := Int.emod_nonneg (start + step * (j : Nat)) (show (26 : Int) ≠ 0 by decide)
  have a2 := Int.emod_nonneg (start + step * (k : Nat)) (show (26 : Int) ≠ 0 by decide)
  have e : (start + step * (j : Nat)) % 26 = (start + step * (k : Nat)) % 26 := by omega
  rcases hs with rfl | rfl | rfl | rfl | rfl <;> omega
def namesN (start step : Int) (ahead : Bool) (stem : Str) (n : Nat) : List Str := (List.range n).map fun k => nameC ahead (letN start step k) stem
theorem namesN_nd {start step : Int} {ahead : Bool} {stem : Str} (hs : step = 1 ∨ step = 3 ∨ step = 5 ∨ step = 7 ∨ step = 9) {n : Nat} (hn : n ≤ 4) : (namesN start step ahead stem n).Nodup := by
  unfold namesN
  refine List.pairwise_map.mpr ?_
  refine (List.nodup_range (n := n)).imp_of_mem fun {a b} ha hb ne e => ne ?_
  have ha := List.mem_range.mp ha
  have hb := List.mem_range.mp hb
  exact letN_inj hs (by omega) (by omega) (nameC_inj e)
section
variable {P : Program} {w : World} {K : PySem.W.Frag} {mg : Str → Option Value} {base : Heap}
/-! ### _law_pick -/
abbrev s__law_pick : Stmt := top 40
theorem sc__law_pick : FnScope ["box", "some"] ["box", "some"] (defScope s__law_pick) := ⟨rfl, rfl, rfl, by decide +kernel, rfl, by decide +kernel, by decide +kernel⟩
def spPick (K : PySem.W.Frag) : Sp := fun vs H Q _ => ∃ (p s : Addr) (xs : List V), vs = [.ref p, .ref s] ∧ BoxAt H p ∧ H s = some (.lst xs) ∧ s ≠ p ∧ (1 ≤ xs.length ∧ xs.length ≤ 1000) ∧ ∀ x H', x ∈ xs → Kept p H H' → BoxAt H' p → Q x H'
theorem ok_pick {f : Addr} {fd : FuncData} (F : Fun K "_law_pick" "_law_pick" s__law_pick f fd) (C__law_take : Cl P w K mg base "_law_take" ["box", "many"] [] 1 spTake) (n_len : mg "len" = none) : FnOk P w K mg base CX0 2 f fd ["box", "some"] (spPick K) := by
  refine F.ok sc__law_pick (fun vs H Q E h => ?_) (fun cdv A outer s H vs Q E hr h => ?_)
  · obtain ⟨_, _, _, rfl, _⟩ := h
    rfl
  · obtain ⟨p, s, xs, rfl, hb, hs, ne, hn, q⟩ := h
    refine ⟨_, (pss_one (ps_ret (pe_ix ix_list (pv 1) (pe_use C__law_take (hr.mono (by decide)) rfl (pa_cons (pv 0) (pa_cons (pe_callB call_len_seq (by rfl) n_len PySem.boot_len (pa_cons (pv 1) pa_nil)) pa_nil))) (fun _ _ => rfl)))), ?_⟩
    refine ⟨_, rfl, _, rfl, _, rfl, s, _, rfl, .inl (SqL.of hs), p, _, rfl, ?_, hb, fun d H' d0 d1 k b => ?_⟩
    · omega
    · have hd : d.toNat < xs.length := by omega
      have e : d = ((d.toNat : Nat) : Int) := by omega
      obtain ⟨x, hx⟩ : ∃ x, xs[d.toNat]? = some x := ⟨_, List.getElem?_eq_getElem hd⟩
      refine ⟨s, _, d, x, rfl, rfl, SqL.of (k _ _ hs ne), ?_, q x H' (List.mem_of_getElem? hx) k b⟩
      rw [e]
      exact atI_nat hx
/-! ### _law_names -/
abbrev s__law_names : Stmt := top 41
theorem sc__law_names : FnScope ["box", "many", "stem", "start", "step", "is_ahead", "found", "k", "letter"] ["box", "many"] (defScope s__law_names) := ⟨rfl, rfl, rfl, by decide +kernel, rfl, by decide +kernel, by decide +kernel⟩
def spNames : Sp := fun vs H Q _ => ∃ (p : Addr) (many : Int), vs = [.ref p, .int many] ∧ (1 ≤ many ∧ many ≤ 4) ∧ BoxAt H p ∧ ∀ (l : Addr) (ns : List Str) H', l ≠ p → Kept p H H' → BoxAt H' p → H' l = some (.lst (ns.map V.str)) → NsOk ns → (∀ x ∈ ns, x.length ≠ 7) → Q (.ref l) H'
theorem ok_names {f : Addr} {fd : FuncData} (F : Fun K "_law_names" "_law_names" s__law_names f fd) (C__law_pick : Cl P w K mg base "_law_pick" ["box", "some"] [] 2 (spPick K)) (C__law_take : Cl P w K mg base "_law_take" ["box", "many"] [] 1 spTake) (n_int : mg "int" = none) (n_range : mg "range" = none) (n_sorted : mg "sorted" = none) : FnOk P w K mg base CX0 3 f fd ["box", "many"] spNames := by
  refine F.ok sc__law_names (fun vs H Q E h => ?_) (fun cdv A outer s H vs Q E hr h => ?_)
  · obtain ⟨_, _, rfl, _⟩ := h
    rfl
  · obtain ⟨p, many, rfl, hm, hb, q⟩ := h
    refine ⟨_, (pss_cons (ps_par (i := 2) (j := 3) (by rfl) sc__law_names.nd rfl rfl (by decide) rfl rfl (pa_cons (pe_use C__law_pick (hr.mono (by decide)) rfl (pa_cons (pv 0) (pa_cons (pe_lst (pa_cons pe_str (pa_cons pe_str (pa_cons pe_str (pa_cons pe_str (pa_cons pe_str pa_nil)))))) pa_nil))) (pa_cons (pe_use C__law_take (hr.mono (by decide)) rfl (pa_cons (pv 0) (pa_cons pe_int pa_nil))) pa_nil)) (by rfl))
    (pss_cons (ps_par3 (i := 4) (j := 5) (l := 6) (by rfl) sc__law_names.nd rfl rfl rfl (by decide) (by decide) (by decide) rfl rfl rfl (pa_cons (pe_use C__law_pick (hr.mono (by decide)) rfl (pa_cons (pv 0) (pa_cons (pe_lst (pa_cons pe_int (pa_cons pe_int (pa_cons pe_int (pa_cons pe_int (pa_cons pe_int pa_nil)))))) pa_nil))) (pa_cons (pe_cmpR op_eq (pe_use C__law_take (hr.mono (by decide)) rfl (pa_cons (pv 0) (pa_cons pe_int pa_nil))) pe_int (nomark _)) (pa_cons (pe_lst pa_nil) pa_nil))) (by rfl))
    (Evl.pss_cut (ps_for PassesOwn.never rfl (pi_range1 (by rfl) n_range (pa_cons (pv 1) pa_nil)) (pg_name (i := 7) sc__law_names.nd rfl (Or.inl rfl))
      (pss_cons (ps_set (i := 8) sc__law_names.nd rfl (Or.inl rfl) (pe_ix ix_str pe_str (pe_op op_mod (pe_callTy call_int1 (by rfl) n_int (by decide +kernel) (pa_cons (pe_op op_add (pv 3) (pe_op op_mul (pv 4) (pv 7))) pa_nil)) pe_int) (fun _ _ => rfl)))
    (pss_one (ps_expr (pe_bm PySem.F.plainAttrs_list PySem.F.slot_list_append PySem.F.type_list_append mt_append (pv 6) (pa_cons (pe_ifExp (pt_val (pv 5)) (pe_op op_add_str (pv 8) (pv 2)) (pe_op op_add_str (pv 2) (pv 8))) pa_nil))))))
    (pss_one (ps_ret (pe_callB cr_sortedS (by rfl) n_sorted (by decide +kernel) (pa_cons (pv 6) pa_nil))))))), ?_⟩
    refine ⟨_, rfl, by show 5 ≤ sizeLine; decide, fun s1 k1 => ?_⟩
    have b1 := hb.same (same_new k1 (.lst [V.str (Str.ofString ""), .str (Str.ofString ""), .str (Str.ofString "a"), .str (Str.ofString "zq"), .str (Str.ofString "bellrin")]))
    have t1 := same_new k1 (.lst [V.str (Str.ofString ""), .str (Str.ofString ""), .str (Str.ofString "a"), .str (Str.ofString "zq"), .str (Str.ofString "bellrin")])
    refine ⟨p, s1, _, rfl, b1, upd_same, hb.ne k1, ⟨by show 1 ≤ 5; decide, by show 5 ≤ 1000; decide⟩, fun st H2 mst k2 b2 => ?_⟩
    obtain ⟨stem, rfl, so, so6⟩ : ∃ x, st = .str x ∧ StemOk x ∧ x.length ≠ 6 := by
      simp only [List.mem_cons, List.not_mem_nil, or_false] at mst
      rcases mst with rfl | rfl | rfl | rfl | rfl <;> exact ⟨_, rfl, stem_ok _ (by simp), by decide⟩
    have k02 : Kept p H H2 := fun b o e n => k2 b o (t1 _ _ e) n
    clear k2 b1 t1 mst
    refine ⟨_, rfl, p, 26, rfl, ⟨by decide, by decide⟩, b2, fun start H3 st0 st1 k3 b3 => ?_⟩
    refine ⟨_, _, rfl, ?_⟩
    have k03 := k02.trans k3
    refine ⟨_, rfl, by show 5 ≤ sizeLine; decide, fun s2 k4 => ?_⟩
    have t4 := same_new k4 (.lst [V.int 1, .int 3, .int 5, .int 7, .int 9])
    refine ⟨p, s2, _, rfl, b3.same t4, upd_same, b3.ne k4, ⟨by show 1 ≤ 5; decide, by show 5 ≤ 1000; decide⟩, fun st H5 mst k5 b5 => ?_⟩
    obtain ⟨step, rfl, hs⟩ : ∃ x : Int, st = .int x ∧ (x = 1 ∨ x = 3 ∨ x = 5 ∨ x = 7 ∨ x = 9) := by
      simp only [List.mem_cons, List.not_mem_nil, or_false] at mst
      rcases mst with rfl | rfl | rfl | rfl | rfl <;> exact ⟨_, rfl, by decide⟩
    have k05 : Kept p H H5 := k03.trans fun b o e n => k5 b o (t4 _ _ e) n
    clear k5 t4 mst k02 k3 k03
    refine ⟨_, rfl, p, 2, rfl, ⟨by decide, by decide⟩, b5, fun d H6 d0 d1 k6 b6 => ⟨rfl, ?_⟩⟩
    have k06 := k05.trans k6
    refine ⟨by show 0 ≤ sizeLine; decide, fun l hl => ?_⟩
    obtain ⟨ahead, ha⟩ : ∃ ahead, decide (V.int d = V.int 0) = ahead := ⟨_, rfl⟩
    rw [ha]
    have t7 := same_new hl (.lst [])
    have el : upd H6 l (.lst []) l = some (.lst []) := upd_same
    have nl : l ≠ p := b6.ne hl
    have b7 := b6.same t7
    have fin : ∀ H', (∀ b o, upd H6 l (.lst []) b = some o → b ≠ p → b ≠ l → H' b = some o) → Kept p H H' := fun H' k b o e n => k b o (t7 _ _ (k06 _ _ e n)) n (ne_of_none (k06 _ _ e n) hl)
    refine ⟨_, _, _, rfl, ?_⟩
    generalize upd H6 l (.lst []) = H7 at t7 el b7 fin ⊢
    clear k05 k6 k06 t7
    let S : Option V → Option V → L2.St := fun o7 o8 => [some (.ref p), some (.int many), some (.str stem), some (.int start), some (.int step), some (.bl ahead), some (.ref l), o7, o8]
    refine ⟨fun σ H' => (∃ o7 o8, σ = S o7 o8) ∧ (∀ b o, H7 b = some o → b ≠ p → b ≠ l → H' b = some o) ∧ BoxAt H' p ∧ H' l = some (.lst ((namesN start step ahead stem many.toNat).map V.str)), ?_, ?_⟩
    · refine ⟨_, rfl, many, rfl, by omega, by omega, ?_⟩
      refine for_range (n := many.toNat) (fun i σ H' => (∃ o7 o8, σ = S o7 o8) ∧ (∀ b o, H7 b = some o → b ≠ p → b ≠ l → H' b = some o) ∧ BoxAt H' p ∧ H' l = some (.lst ((namesN start step ahead stem i).map V.str))) ⟨⟨none, none, rfl⟩, fun _ _ e _ _ => e, b7, el⟩ ?_ ?_
      · rintro i σ H8 hi ⟨⟨o7, o8, rfl⟩, k8, b8, e8⟩
        have i4 : i < 4 := by omega
        have e0 : (0 : Int) + (i : Nat) = (i : Nat) := by omega
        rw [e0]
        have m0 := Int.emod_nonneg (start + step * (i : Nat)) (show (26 : Int) ≠ 0 by decide)
        have m1 := Int.emod_lt_of_pos (start + step * (i : Nat)) (show (0 : Int) < 26 by decide)
        have ea := abc_at ((start + step * (i : Nat)) % 26).toNat (by omega)
        rw [show ((((start + step * (i : Nat)) % 26).toNat : Nat) : Int) = (start + step * (i : Nat)) % 26 by omega] at ea
        refine ⟨_, rfl, _, rfl, _, rfl, _, _, rfl, rfl, .inl ⟨by rcases hs with rfl | rfl | rfl | rfl | rfl <;> decide, by rcases hs with rfl | rfl | rfl | rfl | rfl <;> decide⟩, _, _, rfl, rfl, .inl ⟨_, rfl, _, _, rfl, rfl, by show (0 : Int) < 26; decide, ?_⟩⟩
        refine ⟨_, _, _, rfl, rfl, by rw [sizeLine_eq]; decide, ea, ?_⟩
        have so7 := so.1
        have l1 : (⟨#[97 + ((start + step * (i : Nat)) % 26).toNat]⟩ : Str).length = 1 := rfl
        have grow : (namesN start step ahead stem (i + 1)) = namesN start step ahead stem i ++ [nameC ahead (letN start step i) stem] := by
          unfold namesN
          rw [List.range_succ, List.map_append]; rfl
        have len : (namesN start step ahead stem i).length = i := by unfold namesN; rw [List.length_map, List.length_range]
        have put : ∀ nm, nm = nameC ahead (letN start step i) stem → ∀ o7 o8, (∃ o7' o8', S o7 o8 = S o7' o8') ∧ (∀ b o, H7 b = some o → b ≠ p → b ≠ l → upd H8 l (.lst ((namesN start step ahead stem i).map V.str ++ [.str nm])) b = some o) ∧ BoxAt (upd H8 l (.lst ((namesN start step ahead stem i).map V.str ++ [.str nm]))) p ∧ upd H8 l (.lst ((namesN start step ahead stem i).map V.str ++ [.str nm])) l = some (.lst ((namesN start step ahead stem (i + 1)).map V.str)) := fun nm en o7 o8 => by
          refine ⟨⟨_, _, rfl⟩, fun b o e n m => by rw [upd_ne m]; exact k8 b o e n m, ?_, ?_⟩
          · obtain ⟨g, s, n, e, r⟩ := b8
            exact ⟨g, s, n, by rw [upd_ne nl.symm]; exact e, r⟩
          · rw [upd_same, grow, List.map_append, en]; rfl
        refine ⟨_, rfl, .inl ⟨rfl, _, SqL.of e8⟩, _, rfl, ahead, rfl, ?_⟩
        cases ahead with
        | true => exact iteT ⟨_, rfl, _, rfl, _, _, rfl, rfl, by rw [sizeLine_eq]; omega, l, _, _, rfl, rfl, e8, by rw [List.length_map, sizeLine_eq]; omega, put _ rfl _ _⟩
        | false => exact iteF ⟨_, rfl, _, rfl, _, _, rfl, rfl, by rw [sizeLine_eq]; omega, l, _, _, rfl, rfl, e8, by rw [List.length_map, sizeLine_eq]; omega, put _ rfl _ _⟩
      · rintro σ H8 r
        exact r
    rintro σ H8 ⟨⟨o7, o8, rfl⟩, k8, b8, e8⟩
    have lenN : (namesN start step ahead stem many.toNat).length = many.toNat := by unfold namesN; rw [List.length_map, List.length_range]
    have ndN : (namesN start step ahead stem many.toNat).Nodup := namesN_nd hs (by omega)
    refine ⟨_, rfl, ?_⟩
    refine ⟨l, _, rfl, SqL.of e8, by omega, fun ys q2 pm so2 hq => ?_⟩
    have t9 := same_new hq (.lst (ys.map V.str))
    refine q q2 ys _ (b8.ne hq) (fun b o e n => t9 _ _ (fin _ k8 b o e n)) (b8.same t9) upd_same ⟨sorted_asc so2 (pm.nodup_iff.mpr ndN), ?_, ?_, fun x hx => ?_⟩ fun x hx => ?_
    · intro z
      have := pm.length_eq
      rw [z, lenN] at this
      simp at this
      omega
    · have := pm.length_eq
      omega
    · have := pm.mem_iff.mp hx
      unfold namesN at this
      obtain ⟨k, _, rfl⟩ := List.mem_map.mp this
      exact nameC_nm so letN_ok
    · have := pm.mem_iff.mp hx
      unfold namesN at this
      obtain ⟨k, _, rfl⟩ := List.mem_map.mp this
      have ln : ∀ a b : Str, (a ++ b).length = a.length + b.length := fun _ _ => Array.size_append
      have e1 : ∀ c : Nat, (⟨#[c]⟩ : Str).length = 1 := fun _ => rfl
      unfold nameC
      split
      · rw [ln, e1]; omega
      · rw [ln, e1]; omega
end
end K6

namespace K6
open PySem PySem.Spec PyProof.Rows L2 Hb St Sq Ow En Zp RZ Rd Xb Da Lo Cq LamX Lc Lp Lg
/-! ### tales over some names -/
structure TlIn (ns : List Str) (t : Tale) : Prop where
  ne : ∀ l ∈ t, l ≠ []
  asc : ∀ l ∈ t, l.Pairwise sLt
  inn : ∀ l ∈ t, ∀ x ∈ l, x ∈ ns
def LotIn (ns l : List Str) : Prop := l ≠ [] ∧ l.Pairwise sLt ∧ ∀ x ∈ l, x ∈ ns
theorem tlIn_iff {ns : List Str} {t : Tale} : TlIn ns t ↔ ∀ l ∈ t, LotIn ns l :=
  ⟨fun h l m => ⟨h.ne l m, h.asc l m, h.inn l m⟩, fun h => ⟨fun l m => (h l m).1, fun l m => (h l m).2.1, fun l m => (h l m).2.2⟩⟩
theorem NsOk.nd {ns : List Str} (ok : NsOk ns) : ns.Nodup := asc_nodupS ok.asc
theorem LotIn.len {ns l : List Str} (ok : NsOk ns) (h : LotIn ns l) : l.length ≤ 4 := Nat.le_trans (nodup_len (asc_nodupS h.2.1) h.2.2) ok.ln
theorem TlIn.ok {ns : List Str} {t : Tale} (h : TlIn ns t) (ok : NsOk ns) (l : t.length ≤ 100) : TlOk t :=
  ⟨fun l m x mx => ok.nm x (h.inn l m x mx), h.asc, h.ne, l, fun l m => by have := LotIn.len ok ⟨h.ne l m, h.asc l m, h.inn l m⟩; omega⟩
theorem TlIn.names {ns : List Str} : ∀ {t : Tale}, TlIn ns t → NsOk ns → (t.flatMap id).length ≤ 4 * t.length
  | [], _, _ => Nat.le_refl _
  | l :: t, h, ok => by
    have ih := TlIn.names (t := t) (tlIn_iff.mpr fun l m => tlIn_iff.mp h l (.tail _ m)) ok
    have h1 := LotIn.len ok (tlIn_iff.mp h l (.head _))
    rw [List.flatMap_cons, List.length_append, List.length_cons]
    show l.length + _ ≤ _
    omega
/-- all is kept but the box and the thing at t -/
def KeptT (p t : Addr) (H H' : Hp) : Prop := ∀ b o, H b = some o → b ≠ p → b ≠ t → H' b = some o
theorem KeptT.refl (p t : Addr) (H : Hp) : KeptT p t H H := fun _ _ e _ _ => e
theorem KeptT.kept {p t : Addr} {H H1 H2 : Hp} (a : KeptT p t H H1) (b : Kept p H1 H2) : KeptT p t H H2 := fun c o e n m => b c o (a c o e n m) n
theorem KeptT.put {p t : Addr} {H H1 : Hp} {o : HO} (a : KeptT p t H H1) : KeptT p t H (upd H1 t o) := fun c u e n m => by rw [upd_ne m]; exact a c u e n m
theorem _root_.Hb.Kept.sm {p : Addr} {H H1 H2 : Hp} (a : Kept p H H1) (s : Same H1 H2) : Kept p H H2 := fun c o e n => s _ _ (a c o e n)
theorem kept_same {p : Addr} {H H' : Hp} (s : Same H H') : Kept p H H' := fun c o e _ => s c o e
theorem BoxAt.put {H : Hp} {p t : Addr} {o : HO} (b : BoxAt H p) (n : t ≠ p) : BoxAt (upd H t o) p := let ⟨g, s, k, e, r⟩ := b; ⟨g, s, k, by rw [upd_ne n.symm]; exact e, r⟩
theorem LotH.put {H : Hp} {v : V} {l : List Str} {t : Addr} {ys : List V} {o : HO} (h : LotH H v l) (e : H t = some (.lst ys)) : LotH (upd H t o) v l := by
  obtain ⟨b, ev, eb⟩ := h
  exact ⟨b, ev, by rw [upd_ne (fun z => by rw [z, e] at eb; cases eb)]; exact eb⟩
theorem LotH.kept {H H' : Hp} {p : Addr} {v : V} {l : List Str} (h : LotH H v l) (b : BoxAt H p) (k : Kept p H H') : LotH H' v l := h.on (b.kept k)
theorem lotIn_one {ns : List Str} {x : Str} (h : x ∈ ns) : LotIn ns [x] := ⟨by simp, List.pairwise_singleton _ _, fun y hy => by rw [List.mem_singleton.mp hy]; exact h⟩
theorem eqv_nilL (d : List PyData) : PyData.eqv (.list d) (.list []) = decide (d = []) := by cases d <;> rfl
theorem kfix {p : Addr} {H H' : Hp} (h : Kept p H H') (b : BoxAt H p) : Fix H H' := fun c o e n => h c o e fun z => by
  obtain ⟨g, s, k, eb, _⟩ := b
  rw [z, eb] at e
  exact n (Option.some.inj e ▸ .inl ⟨_, rfl⟩)
section
variable {P : Program} {w : World} {K : PySem.W.Frag} {mg : Str → Option Value} {base : Heap}
/-! ### _law_tale -/
abbrev s__law_tale : Stmt := top 42
theorem sc__law_tale : FnScope ["box", "names", "most", "found", "turn", "lot", "name"] ["box", "names", "most"] (defScope s__law_tale) := ⟨rfl, rfl, rfl, by decide +kernel, rfl, by decide +kernel, by decide +kernel⟩
def spTale : Sp := fun vs H Q _ => ∃ (p l : Addr) (ns : List Str), vs = [.ref p, .ref l, .int 5] ∧ BoxAt H p ∧ H l = some (.lst (ns.map V.str)) ∧ l ≠ p ∧ NsOk ns ∧ ∀ t tl H', Kept p H H' → BoxAt H' p → TalH H' (.ref t) tl → TlIn ns tl → tl.length ≤ 5 → Q (.ref t) H'
theorem ok_tale {f : Addr} {fd : FuncData} (F : Fun K "_law_tale" "_law_tale" s__law_tale f fd) (C__law_pick : Cl P w K mg base "_law_pick" ["box", "some"] [] 2 (spPick K)) (C__law_take : Cl P w K mg base "_law_take" ["box", "many"] [] 1 spTake) (n_range : mg "range" = none) (n_tuple : mg "tuple" = none) : FnOk P w K mg base CX0 3 f fd ["box", "names", "most"] spTale := by
  refine F.ok sc__law_tale (fun vs H Q E h => ?_) (fun cdv A outer s H vs Q E hr h => ?_)
  · obtain ⟨_, _, _, rfl, _⟩ := h
    rfl
  · obtain ⟨p, l, ns, rfl, hb, hl, lp, ok, q⟩ := h
    refine ⟨_, (pss_cons (ps_set (i := 3) sc__law_tale.nd rfl (Or.inl rfl) (pe_lst pa_nil))
    (Evl.pss_cut (ps_for PassesOwn.never rfl (pi_range1 (by rfl) n_range (pa_cons (pe_use C__law_take (hr.mono (by decide)) rfl (pa_cons (pv 0) (pa_cons (pe_op op_add (pv 2) pe_int) pa_nil))) pa_nil)) (pg_name (i := 4) sc__law_tale.nd rfl (Or.inl rfl))
      (Evl.pss_cut (ps_setLc (i := 5) (own := [("name", 6)]) (g := gName 6) (by rfl) sc__law_tale.nd rfl rfl (sw_true rfl rfl rfl (by decide +kernel)) (pi_seq (pv 1)) (blkOk_by (N := ["box", "names", "most", "found", "turn", "lot", "name"]) (sc := defScope s__law_tale) (by decide +kernel)) (fun _ _ _ _ _ => pg_name (i := 6) sc__law_tale.nd rfl (Or.inl rfl)) (fun _ _ _ _ _ => pts_one (pt_cmpR op_eq (pe_use C__law_take (hr.mono (by decide)) rfl (pa_cons (pv 0) (pa_cons pe_int pa_nil))) pe_int (nomark _))) (fun _ _ _ _ _ => pv 6))
    (Evl.pss_cut (ps_if (PW.pt (pw_or (pt_cmpR (op_eqD hr.units) (pv 5) (pe_lst pa_nil) (nomark _)) (pw_or1 (pt_cmpR op_eq (pe_use C__law_take (hr.mono (by decide)) rfl (pa_cons (pv 0) (pa_cons pe_int pa_nil))) pe_int (nomark _))))) (pss_one (ps_set (i := 5) sc__law_tale.nd rfl (Or.inl rfl) (pe_lst (pa_cons (pe_use C__law_pick (hr.mono (by decide)) rfl (pa_cons (pv 0) (pa_cons (pv 1) pa_nil))) pa_nil)))) pss_nil)
    (pss_one (ps_expr (pe_bm PySem.F.plainAttrs_list PySem.F.slot_list_append PySem.F.type_list_append mt_append (pv 3) (pa_cons (pe_callTy call_tuple_of (by rfl) n_tuple (by decide +kernel) (pa_cons (pv 5) pa_nil)) pa_nil)))))))
    (pss_one (ps_ret (pe_callTy call_tuple_of (by rfl) n_tuple (by decide +kernel) (pa_cons (pv 3) pa_nil)))))), ?_⟩
    refine ⟨by show 0 ≤ sizeLine; decide, fun tp ktp => ?_⟩
    have tpp : tp ≠ p := hb.ne ktp
    have s1 := same_new ktp (.lst [])
    have etp : upd H tp (.lst []) tp = some (.lst []) := upd_same
    have b1 := hb.same s1
    have hl1 := s1 _ _ hl
    have ltp : l ≠ tp := ne_of_none hl ktp
    have kin : ∀ H', KeptT p tp (upd H tp (.lst [])) H' → Kept p H H' := fun H' k b o e x => k b o (s1 _ _ e) x (ne_of_none e ktp)
    generalize upd H tp (.lst []) = H1 at s1 etp b1 hl1 kin ⊢
    let St : L2.St → Prop := fun σ => ∃ o4 o5 o6, σ = [some (.ref p), some (.ref l), some (.int 5), some (.ref tp), o4, o5, o6]
    let Inv : Hp → Nat → Prop := fun H' n => ∃ its tl, KeptT p tp H1 H' ∧ BoxAt H' p ∧ H' tp = some (.lst its) ∧ All2 (LotH H') its tl ∧ TlIn ns tl ∧ tl.length = n
    refine ⟨fun σ H' => St σ ∧ ∃ n, Inv H' n ∧ n ≤ 5, ?_, ?_⟩
    · refine ⟨_, rfl, _, rfl, _, _, rfl, rfl, p, 6, rfl, ⟨by decide, by decide⟩, b1, fun d H2 d0 d1 k2 b2 => ?_⟩
      refine ⟨d, rfl, by omega, by omega, ?_⟩
      refine for_sq (wk_range (a := tp)) (fun i σ H' => St σ ∧ Inv H' i) ⟨⟨none, none, none, rfl⟩, [], [], fun b o e x _ => k2 b o e x, b2, k2 _ _ etp tpp, .nil, tlIn_iff.mpr (fun x hx => by cases hx), rfl⟩ (fun _ _ _ _ => trivial) ?_ ?_
      · rintro i σ H3 x ex ⟨⟨o4, o5, o6, rfl⟩, its, tl, k3, b3, et3, al3, okl, ln⟩
        have hi : i < d.toNat := by
          have := (List.getElem?_eq_some_iff.mp ex).1
          rw [List.length_map, List.length_range] at this
          omega
        have hn3 : H3 l = some (.lst (ns.map V.str)) := k3 _ _ hl1 lp ltp
        refine ⟨fun σ H' => ∃ (D : Addr) (xs : List Str) (o6 : Option V), σ = [some (.ref p), some (.ref l), some (.int 5), some (.ref tp), some x, some (.ref D), o6] ∧ D ≠ p ∧ Kept p H3 H' ∧ BoxAt H' p ∧ H' D = some (.lst (xs.map V.str)) ∧ xs.Sublist ns, ?_, ?_⟩
        refine ⟨_, rfl, l, _, rfl, SqX.lst hn3, fun J S W z0 D hD => ?_⟩
        have Dp_ : D ≠ p := b3.ne hD
        have Dt : D ≠ tp := (ne_of_none et3 hD).symm
        have Dl : l ≠ D := ne_of_none hn3 hD
        refine lc_go W (fun j H' => KeptT p D H3 H' ∧ BoxAt H' p ∧ ∃ xs : List Str, H' D = some (.lst (xs.map V.str)) ∧ xs.Sublist (ns.take j)) ⟨fun b o e _ m => by rw [upd_ne m]; exact e, b3.put Dp_, [], upd_same, List.nil_sublist _⟩ (fun j H' m => W.keep (fun o e => by rw [hn3] at e; cases e; exact m.1 _ _ hn3 lp Dl) z0) ?_ ?_
        · rintro j y H4 ey ⟨k4, b4, xs, eD, sub⟩
          obtain ⟨nm, en, rfl⟩ := str_at ey
          refine ⟨rfl, _, rfl, p, 3, rfl, ⟨by decide, by decide⟩, b4, fun d' H5 _ _ k5 b5 => ?_⟩
          have eD5 := k5 _ _ eD Dp_
          have lx : xs.length ≤ 4 := Nat.le_trans sub.length_le (Nat.le_trans (List.length_take_le' ..) ok.ln)
          refine ⟨rfl, _, rfl, iteD (fun c => ⟨_, rfl, _, eD5, by rw [List.length_map, sizeLine_eq]; omega, (k4.kept k5).put, b5.put Dp_, xs ++ [nm], by rw [upd_same, List.map_append]; rfl, sub_yes sub en⟩) fun c => ⟨k4.kept k5, b5, xs, eD5, sub_no sub⟩⟩
        · rintro H4 ⟨k4, b4, xs, eD, sub⟩
          rw [List.length_map, List.take_length] at sub
          exact ⟨D, xs, _, rfl, Dp_, fun b o e n => k4 b o e n (ne_of_none e hD), b4, eD, sub⟩
        · rintro σ H4 ⟨D, xs, o6, rfl, Dp_, k34, b4, eD, sub⟩
          have asc := ok.asc.sublist sub
          have inn : ∀ x ∈ xs, x ∈ ns := fun x hx => sub.subset hx
          have lx : xs.length ≤ 4 := Nat.le_trans sub.length_le ok.ln
          refine ⟨fun σ H' => ∃ (dd : Addr) (lot : List Str), σ = [some (.ref p), some (.ref l), some (.int 5), some (.ref tp), some x, some (.ref dd), o6] ∧ Kept p H3 H' ∧ BoxAt H' p ∧ H' dd = some (.lst (lot.map V.str)) ∧ LotIn ns lot, ?_, ?_⟩
          · have one : ∀ H5, Kept p H3 H5 → BoxAt H5 p → spPick K [.ref p, .ref l] H5 (fun v H6 => 1 ≤ sizeLine ∧ ∀ t, H6 t = none → ∃ (dd : Addr) (lot : List Str), [some (.ref p), some (.ref l), some (.int 5), some (.ref tp), some x, some (V.ref t), o6] = [some (.ref p), some (.ref l), some (.int 5), some (.ref tp), some x, some (.ref dd), o6] ∧ Kept p H3 (upd H6 t (.lst [v])) ∧ BoxAt (upd H6 t (.lst [v])) p ∧ upd H6 t (.lst [v]) dd = some (.lst (lot.map V.str)) ∧ LotIn ns lot) fun _ _ _ => False := fun H5 k5 b5 => by
              refine ⟨p, l, _, rfl, b5, k5 _ _ hn3 lp, lp, ⟨by rw [List.length_map]; have := List.length_pos_iff.mpr ok.ne; omega, by rw [List.length_map]; have := ok.ln; omega⟩, fun v H6 mv k6 b6 => ⟨by decide, fun t kt => ?_⟩⟩
              obtain ⟨nm, hnm, rfl⟩ := List.mem_map.mp mv
              exact ⟨t, [nm], rfl, (k5.trans k6).sm (same_new kt _), b6.same (same_new kt _), upd_same, lotIn_one hnm⟩
            refine ⟨_, rfl, by show 0 ≤ sizeLine; decide, fun t7 kt7 => ?_⟩
            have s7 := same_new kt7 (.lst [])
            have e7 : upd H4 t7 (.lst []) t7 = some (.lst []) := upd_same
            generalize upd H4 t7 (.lst []) = H7 at s7 e7 ⊢
            have b7 := b4.same s7
            have k7 := k34.sm s7
            refine ⟨.list (xs.map .str), .list [], .lst (SqL.of (s7 _ _ eD)) (dp_strs xs), .lst (SqL.of e7) .nil, (sh_lst (n := 0) fun x hx => sh_str (ok.nm x (inn x hx))).ok (by decide), by decide, _, rfl, ?_⟩
            rw [eqv_nilL]
            by_cases c1 : xs = []
            · subst c1
              rw [decide_eq_true (by rfl)]
              exact iteT (iteT ⟨_, rfl, _, rfl, one _ k7 b7⟩)
            · rw [decide_eq_false (by rw [List.map_eq_nil_iff]; exact c1)]
              refine iteF ⟨_, rfl, p, 2, rfl, ⟨by decide, by decide⟩, b7, fun fm H8 _ _ k8 b8 => ⟨rfl, _, rfl, ?_⟩⟩
              by_cases c2 : fm = 0
              · rw [decide_eq_true (by rw [c2])]
                exact iteT ⟨_, rfl, _, rfl, one _ (k7.trans k8) b8⟩
              · rw [decide_eq_false (fun e => c2 (by injection e))]
                exact iteF ⟨D, xs, rfl, k7.trans k8, b8, k8 _ _ (s7 _ _ eD) Dp_, c1, asc, inn⟩
          · rintro σ H7 ⟨dd, lot, rfl, k7, b7, ed, lo⟩
            have et7 : H7 tp = some (.lst its) := k7 _ _ et3 tpp
            refine ⟨_, rfl, .inl ⟨rfl, _, SqL.of et7⟩, _, rfl, dd, _, rfl, .inl ⟨SqL.of ed, fun tq ktq => ?_⟩⟩
            have s8 := same_new ktq (.tup (lot.map V.str))
            have e8 : upd H7 tq (.tup (lot.map V.str)) tq = some (.tup (lot.map V.str)) := upd_same
            generalize upd H7 tq (.tup (lot.map V.str)) = H8 at s8 e8 ⊢
            have et8 := s8 _ _ et7
            refine ⟨tp, its, .ref tq, rfl, rfl, et8, ?_, ⟨_, _, _, rfl⟩, its ++ [.ref tq], tl ++ [lot], ((k3.kept k7).kept (kept_same s8)).put, (b7.same s8).put tpp, upd_same, ?_, ?_, by rw [List.length_append, ln]; rfl⟩
            · have := al3.len; rw [sizeLine_eq]; omega
            · exact (((al3.imp fun _ _ t => t.kept b3 k7).imp fun _ _ t => t.same s8).imp fun _ _ t => t.put et8).app (.cons (LotH.put ⟨tq, rfl, e8⟩ et8) .nil)
            · refine tlIn_iff.mpr fun x hx => ?_
              rcases List.mem_append.mp hx with h | h
              · exact tlIn_iff.mp okl x h
              · rw [List.mem_singleton.mp h]; exact lo
      · rintro σ H3 ⟨st, iv⟩
        rw [List.length_map, List.length_range] at iv
        exact ⟨st, _, iv, by omega⟩
    rintro σ H2 ⟨⟨o4, o5, o6, rfl⟩, n, ⟨its, tl, k2, b2, et2, al, okl, ln⟩, nm⟩
    refine ⟨_, rfl, tp, its, rfl, .inl ⟨SqL.of et2, fun t kt => ?_⟩⟩
    have s3 := same_new kt (.tup its)
    exact q t tl _ ((kin _ k2).sm s3) (b2.same s3) ⟨t, its, rfl, upd_same, al.imp fun _ _ r => r.same s3⟩ okl (by omega)
end
end K6

namespace K6
open PySem PySem.Spec PyProof.Rows L2 Hb St Sq Ow En Zp RZ Rd Xb Da Lo Cq LamX Lc Lp Lg
/-! ### cuts of lists -/
def cutN {α : Type} (xs : List α) (i j : Option Nat) : List α := match j with
  | some j => (xs.take j).drop (i.getD 0)
  | none => xs.drop (i.getD 0)
theorem cutV_N (xs : List V) (i j : Option Nat) : cutV xs (i.map fun n => ((n : Nat) : Int)) (j.map fun n => ((n : Nat) : Int)) = cutN xs i j := by
  have hi : HT.sIx xs.length 0 (i.map fun n => ((n : Nat) : Int)) = min (i.getD 0) xs.length := by
    cases i with
    | none => show HT.sIx _ _ none = _; rw [HT.sIx_none]; simp
    | some i => exact HT.sIx_nat _ _ _
  have dr : xs.drop (min (i.getD 0) xs.length) = xs.drop (i.getD 0) := by
    rcases Nat.le_total (i.getD 0) xs.length with h | h
    · rw [Nat.min_eq_left h]
    · rw [Nat.min_eq_right h, List.drop_length, List.drop_eq_nil_of_le h]
  unfold cutV
  rw [hi, dr]
  cases j with
  | none =>
    show (xs.drop _).take (HT.sIx xs.length xs.length none - _) = xs.drop _
    rw [HT.sIx_none, List.take_of_length_le]
    rw [List.length_drop]; omega
  | some j =>
    show (xs.drop _).take (HT.sIx xs.length xs.length (some (j : Int)) - _) = (xs.take j).drop _
    rw [HT.sIx_nat, List.drop_take]
    rcases Nat.le_total (i.getD 0) xs.length with h | h
    · rcases Nat.le_total j xs.length with g | g
      · rw [Nat.min_eq_left g, Nat.min_eq_left h]
      · rw [Nat.min_eq_right g, Nat.min_eq_left h, List.take_of_length_le (by rw [List.length_drop]; omega), List.take_of_length_le (by rw [List.length_drop]; omega)]
    · rw [List.drop_eq_nil_of_le h]; simp
theorem cutN_mem {α : Type} {xs : List α} {i j : Option Nat} {x : α} (h : x ∈ cutN xs i j) : x ∈ xs := by
  unfold cutN at h
  cases j with
  | none => exact List.mem_of_mem_drop h
  | some j => exact List.mem_of_mem_take (List.mem_of_mem_drop h)
theorem cutN_all {α β : Type} {R : α → β → Prop} {xs : List α} {ys : List β} (h : All2 R xs ys) (i j : Option Nat) : All2 R (cutN xs i j) (cutN ys i j) := by
  unfold cutN
  cases j with
  | none => exact h.drop _
  | some j => exact (h.take j).drop _
theorem cutN_map {α β : Type} (f : α → β) (xs : List α) (i j : Option Nat) : cutN (xs.map f) i j = (cutN xs i j).map f := by
  unfold cutN
  cases j with
  | none => rw [List.map_drop]
  | some j => rw [List.map_drop, List.map_take]
section
variable {K : PySem.W.Frag} {H : Hp} {Q : VK}
theorem rd_slLos {a : Addr} {tl : List Lot} (i j : Option Nat) {lo hi : Option Int} (elo : lo = i.map fun n => ((n : Nat) : Int)) (ehi : hi = j.map fun n => ((n : Nat) : Int)) (h : LosH H a tl) (q : ∀ p H', Same H H' → LosH H' p (cutN tl i j) → Q (.ref p) H') : rSlL K (.ref a) lo hi H Q := by
  subst elo ehi
  obtain ⟨its, e, al⟩ := h
  refine ⟨a, its, rfl, SqL.of e, fun p hp => ?_⟩
  rw [cutV_N]
  have s := same_new hp (.lst (cutN its i j))
  exact q p _ s ⟨_, upd_same, (cutN_all al i j).imp fun _ _ r => r.same s⟩
theorem rd_catLos {a b : Addr} {t u : List Lot} (h1 : LosH H a t) (h2 : LosH H b u) (l : t.length + u.length ≤ 1000) (q : ∀ p H', Same H H' → LosH H' p (t ++ u) → Q (.ref p) H') : rCat (.ref a) (.ref b) H Q := by
  obtain ⟨its, e, al⟩ := h1
  obtain ⟨jts, f, bl⟩ := h2
  refine ⟨a, b, its, jts, rfl, rfl, e, f, by rw [al.len, bl.len, sizeLine_eq]; omega, fun p hp => ?_⟩
  have s := same_new hp (.lst (its ++ jts))
  exact q p _ s ⟨_, upd_same, (al.app bl).imp fun _ _ r => r.same s⟩
end
theorem LosH.new {H : Hp} {p : Addr} {its : List V} {tl : List Lot} (hp : H p = none) (al : All2 (LotH H) its tl) : LosH (upd H p (.lst its)) p tl := ⟨its, upd_same, al.imp fun _ _ r => r.same (same_new hp _)⟩
theorem los_ne {H : Hp} {r p : Addr} {tl : List Lot} (h : LosH H r tl) (b : BoxAt H p) : r ≠ p := fun z => by
  obtain ⟨_, _, _, e, _, _⟩ := b
  obtain ⟨kts, e2, al2⟩ := h
  rw [z, e] at e2
  cases e2
  cases al2 with
  | cons h _ => obtain ⟨_, h, _⟩ := h; cases h
theorem lotS_in {ns l m : List Str} (hl : LotIn ns l) (hm : LotIn ns m) : LotIn ns (lotS (l ++ m)) := by
  refine ⟨fun z => ?_, asc_lotS _, fun x hx => ?_⟩
  · cases l with
    | nil => exact hl.1 rfl
    | cons x r =>
      have : x ∈ lotS ((x :: r) ++ m) := mem_lotS.mpr (.head _)
      rw [z] at this; cases this
  · rcases List.mem_append.mp (mem_lotS.mp hx) with h | h
    · exact hl.2.2 x h
    · exact hm.2.2 x h
section
variable {P : Program} {w : World} {K : PySem.W.Frag} {mg : Str → Option Value} {base : Heap}
/-! ### _law_changed -/
abbrev s__law_changed : Stmt := top 43
theorem sc__law_changed : FnScope ["box", "tale", "names", "rows", "turn", "kind", "at", "lot"] ["box", "tale", "names"] (defScope s__law_changed) := ⟨rfl, rfl, rfl, by decide +kernel, rfl, by decide +kernel, by decide +kernel⟩
def spChanged (K : PySem.W.Frag) : Sp := fun vs H Q _ => ∃ (p l : Addr) (v : V) (ns : List Str) (tl : Tale), vs = [.ref p, v, .ref l] ∧ BoxAt H p ∧ TalH H v tl ∧ TlIn ns tl ∧ tl.length ≤ 12 ∧ H l = some (.lst (ns.map V.str)) ∧ l ≠ p ∧ NsOk ns ∧ ∀ t tl' H', Kept p H H' → BoxAt H' p → TalH H' (.ref t) tl' → TlIn ns tl' → tl'.length ≤ tl.length + 3 → Q (.ref t) H'
theorem ok_changed {f : Addr} {fd : FuncData} (F : Fun K "_law_changed" "_law_changed" s__law_changed f fd) (C__law_pick : Cl P w K mg base "_law_pick" ["box", "some"] [] 2 (spPick K)) (C__law_take : Cl P w K mg base "_law_take" ["box", "many"] [] 1 spTake) (n_len : mg "len" = none) (n_list : mg "list" = none) (n_max : mg "max" = none) (n_range : mg "range" = none) (n_set : mg "set" = none) (n_sorted : mg "sorted" = none) (n_tuple : mg "tuple" = none) : FnOk P w K mg base CX0 3 f fd ["box", "tale", "names"] (spChanged K) := by
  refine F.ok sc__law_changed (fun vs H Q E h => ?_) (fun cdv A outer s H vs Q E hr h => ?_)
  · obtain ⟨_, _, _, _, _, rfl, _⟩ := h
    rfl
  · obtain ⟨p, l, v, ns, tl, rfl, hb, ht, ti, tn, hl, lp, ok, q⟩ := h
    refine ⟨_, (pss_cons (ps_set (i := 3) sc__law_changed.nd rfl (Or.inl rfl) (pe_callTy call_list_of (by rfl) n_list (by decide +kernel) (pa_cons (pv 1) pa_nil)))
    (Evl.pss_cut (ps_for PassesOwn.never rfl (pi_range1 (by rfl) n_range (pa_cons (pe_op op_add pe_int (pe_use C__law_take (hr.mono (by decide)) rfl (pa_cons (pv 0) (pa_cons pe_int pa_nil)))) pa_nil)) (pg_name (i := 4) sc__law_changed.nd rfl (Or.inl rfl))
      (pss_cons (ps_par (i := 5) (j := 6) (by rfl) sc__law_changed.nd rfl rfl (by decide) rfl rfl (pa_cons (pe_use C__law_take (hr.mono (by decide)) rfl (pa_cons (pv 0) (pa_cons pe_int pa_nil))) (pa_cons (pe_use C__law_take (hr.mono (by decide)) rfl (pa_cons (pv 0) (pa_cons (pe_callB (call_max2 rfl) (by rfl) n_max PyProof.Rows.boot_max (pa_cons pe_int (pa_cons (pe_callB call_len_seq (by rfl) n_len PySem.boot_len (pa_cons (pv 3) pa_nil)) pa_nil))) pa_nil))) pa_nil)) (by rfl))
    (Evl.pss_cut (ps_set (i := 7) sc__law_changed.nd rfl (Or.inl rfl) (pe_ifExp (pt_cmpR op_lt (pv 6) (pe_callB call_len_seq (by rfl) n_len PySem.boot_len (pa_cons (pv 3) pa_nil)) (nomark _)) (pe_callTy call_list_of (by rfl) n_list (by decide +kernel) (pa_cons (pe_ix ix_list (pv 3) (pv 6) (fun _ _ => rfl)) pa_nil)) (pe_lst pa_nil)))
    (pss_one (ps_if (PW.pt (pw_or (pt_cmpR op_eq (pv 5) pe_int (nomark _)) (pw_or1 (pt_cmpR (op_eqD hr.units) (pv 7) (pe_lst pa_nil) (nomark _))))) (pss_one (ps_set (i := 3) sc__law_changed.nd rfl (Or.inl rfl) (pe_op op_cat (pe_op op_cat (pe_slice (r := rSlL K) sl_list (pv 3) po_none (po_some (pv 6))) (pe_lst (pa_cons (pe_tup (pa_cons (pe_use C__law_pick (hr.mono (by decide)) rfl (pa_cons (pv 0) (pa_cons (pv 2) pa_nil))) pa_nil)) pa_nil))) (pe_slice (r := rSlL K) sl_list (pv 3) (po_some (pv 6)) po_none)))) (pss_one (ps_if (pt_cmpR op_eq (pv 5) pe_int (nomark _)) (pss_one (ps_set (i := 3) sc__law_changed.nd rfl (Or.inl rfl) (pe_slice (r := rSlL K) sl_list (pv 3) po_none (po_some (pv 6))))) (pss_one (ps_if (pt_cmpR op_eq (pv 5) pe_int (nomark _)) (pss_one (ps_set (i := 3) sc__law_changed.nd rfl (Or.inl rfl) (pe_op op_cat (pe_op op_cat (pe_op op_cat (pe_slice (r := rSlL K) sl_list (pv 3) po_none (po_some (pv 6))) (pe_slice (r := rSlL K) sl_list (pv 3) (po_some (pe_op op_add (pv 6) pe_int)) (po_some (pe_op op_add (pv 6) pe_int)))) (pe_slice (r := rSlL K) sl_list (pv 3) (po_some (pv 6)) (po_some (pe_op op_add (pv 6) pe_int)))) (pe_slice (r := rSlL K) sl_list (pv 3) (po_some (pe_op op_add (pv 6) pe_int)) po_none)))) (pss_one (ps_if (PW.pt (pw_and (pt_cmpR op_eq (pv 5) pe_int (nomark _)) (pw_and1 (pt_cmpR op_lt (pe_op op_add (pv 6) pe_int) (pe_callB call_len_seq (by rfl) n_len PySem.boot_len (pa_cons (pv 3) pa_nil)) (nomark _))))) (pss_one (ps_set (i := 3) sc__law_changed.nd rfl (Or.inl rfl) (pe_op op_cat (pe_op op_cat (pe_slice (r := rSlL K) sl_list (pv 3) po_none (po_some (pv 6))) (pe_lst (pa_cons (pe_callTy call_tuple_of (by rfl) n_tuple (by decide +kernel) (pa_cons (pe_callB (cr_sorted2 rfl) (by rfl) n_sorted (by decide +kernel) (pa_cons (pe_callTy (cr_set rfl) (by rfl) n_set (by decide +kernel) (pa_cons (pe_op op_cat (pv 7) (pe_callTy call_list_of (by rfl) n_list (by decide +kernel) (pa_cons (pe_ix ix_list (pv 3) (pe_op op_add (pv 6) pe_int) (fun _ _ => rfl)) pa_nil))) pa_nil)) pa_nil)) pa_nil)) pa_nil))) (pe_slice (r := rSlL K) sl_list (pv 3) (po_some (pe_op op_add (pv 6) pe_int)) po_none)))) (pss_one (ps_if (PW.pt (pw_and (pt_cmpR op_eq (pv 5) pe_int (nomark _)) (pw_and1 (pt_cmpR op_gt (pe_callB call_len_seq (by rfl) n_len PySem.boot_len (pa_cons (pv 7) pa_nil)) pe_int (nomark _))))) (pss_one (ps_set (i := 3) sc__law_changed.nd rfl (Or.inl rfl) (pe_op op_cat (pe_op op_cat (pe_slice (r := rSlL K) sl_list (pv 3) po_none (po_some (pv 6))) (pe_lst (pa_cons (pe_callTy call_tuple_of (by rfl) n_tuple (by decide +kernel) (pa_cons (pe_slice (r := rSlL K) sl_list (pv 7) po_none (po_some pe_int)) pa_nil)) (pa_cons (pe_callTy call_tuple_of (by rfl) n_tuple (by decide +kernel) (pa_cons (pe_slice (r := rSlL K) sl_list (pv 7) (po_some pe_int) po_none) pa_nil)) pa_nil)))) (pe_slice (r := rSlL K) sl_list (pv 3) (po_some (pe_op op_add (pv 6) pe_int)) po_none)))) pss_nil)))))))))))))
    (pss_one (ps_ret (pe_callTy call_tuple_of (by rfl) n_tuple (by decide +kernel) (pa_cons (pv 3) pa_nil)))))), ?_⟩
    obtain ⟨L, hL⟩ : ∃ L, tl.length = L := ⟨_, rfl⟩
    have tnA : L ≤ 12 := by omega
    clear tn
    have tn0 : tl.length ≤ L + 0 := by omega
    obtain ⟨a, its, rfl, ea, al⟩ := ht
    refine ⟨_, rfl, a, its, rfl, .inr (SqT.of ea), fun r0 kr0 => ?_⟩
    have h1 : LosH (upd H r0 (.lst its)) r0 tl := LosH.new kr0 al
    have s1 := same_new kr0 (.lst its)
    have b1 := hb.same s1
    have hl1 := s1 _ _ hl
    generalize upd H r0 (.lst its) = H1 at h1 s1 b1 hl1 ⊢
    let Inv : Hp → Addr → Nat → Prop := fun H' r n => ∃ tl, Kept p H1 H' ∧ BoxAt H' p ∧ LosH H' r tl ∧ TlIn ns tl ∧ tl.length ≤ L + n
    let S : L2.St → Addr → Prop := fun σ r => ∃ o4 o5 o6 o7, σ = [some (.ref p), some (.ref a), some (.ref l), some (.ref r), o4, o5, o6, o7]
    refine ⟨fun σ H' => ∃ r, S σ r ∧ Inv H' r 3, ?_, ?_⟩
    · refine ⟨_, rfl, p, 3, rfl, ⟨by decide, by decide⟩, b1, fun d H2 d0 d1 k2 b2 => ?_⟩
      refine ⟨_, _, rfl, rfl, ?_⟩
      refine ⟨_, rfl, by omega, by omega, ?_⟩
      have hn : (1 + d).toNat ≤ 3 := by omega
      obtain ⟨jts, ej, ajl⟩ := h1
      refine for_sq (wk_range (a := r0)) (fun i σ H' => i ≤ (1 + d).toNat ∧ ∃ r, S σ r ∧ Inv H' r i) ⟨Nat.zero_le _, r0, ⟨none, none, none, none, rfl⟩, tl, k2, b2, ?_, ti, tn0⟩ (fun _ _ _ _ => trivial) ?_ ?_
      · exact ⟨jts, k2 _ _ ej (fun z => by obtain ⟨_, _, _, e, _⟩ := hb; rw [← z, kr0] at e; cases e), ajl.imp fun _ _ r => r.kept b1 k2⟩
      · rintro i σ H3 x ex ⟨hi, r, ⟨o4, o5, o6, o7, rfl⟩, tl, k3, b3, h3, ti, tnL⟩
        have hi' : i < (1 + d).toNat := by
          have := (List.getElem?_eq_some_iff.mp ex).1
          rw [List.length_map, List.length_range] at this
          omega
        have rp : r ≠ p := los_ne h3 b3
        refine ⟨_, rfl, p, 6, rfl, ⟨by decide, by decide⟩, b3, fun kd H4 kd0 kd1 k4 b4 => ?_⟩
        have h4 : LosH H4 r tl := h3.kept rp k4 (b3.kept k4)
        obtain ⟨its4, e4, al4⟩ := id h4
        refine ⟨_, rfl, _, rfl, r, its4, rfl, .inl (SqL.of e4), _, _, rfl, p, _, rfl, ?_, b4, fun aa H5 a0 a1 k5 b5 => ?_⟩
        · rw [al4.len]; split <;> omega
        refine ⟨_, _, rfl, ?_⟩
        obtain ⟨n, rfl⟩ := Int.eq_ofNat_of_zero_le a0
        have h5 : LosH H5 r tl := h4.kept rp k5 (b4.kept k5)
        have k15 := (k3.trans k4).trans k5
        clear h4 e4 al4 a0 a1 k4 k5 b4
        obtain ⟨its5, e5, al5⟩ := id h5
        have fin : ∀ r' tl' H' o5 o6 o7, Kept p H5 H' → BoxAt H' p → LosH H' r' tl' → (∀ l ∈ tl', LotIn ns l) → tl'.length ≤ tl.length + 1 → i + 1 ≤ (1 + d).toNat ∧ ∃ r, S [some (.ref p), some (.ref a), some (.ref l), some (.ref r'), some x, o5, o6, o7] r ∧ Inv H' r (i + 1) :=
          fun r' tl' H' o5 o6 o7 k b h t n => ⟨hi', r', ⟨_, _, _, _, rfl⟩, tl', k15.trans k, b, h, tlIn_iff.mpr t, by omega⟩
        have mi : ∀ l ∈ tl, LotIn ns l := tlIn_iff.mp ti
        have tn' : tl.length ≤ 15 := by omega
        refine ⟨fun σ H' => ∃ D lot, σ = [some (.ref p), some (.ref a), some (.ref l), some (.ref r), some x, some (.int kd), some (.int (n : Nat)), some (.ref D)] ∧ Same H5 H' ∧ H' D = some (.lst (lot.map V.str)) ∧ ((lot = [] ∧ tl.length ≤ n) ∨ tl[n]? = some lot), ?_, ?_⟩
        · refine ⟨_, rfl, _, rfl, r, its5, rfl, .inl (SqL.of e5), _, _, rfl, rfl, _, rfl, ?_⟩
          rw [al5.len]
          by_cases c : n < tl.length
          · rw [decide_eq_true (by omega)]
            obtain ⟨lot, el⟩ : ∃ lot, tl[n]? = some lot := ⟨_, List.getElem?_eq_getElem c⟩
            obtain ⟨y, ey⟩ : ∃ y, its5[n]? = some y := ⟨_, List.getElem?_eq_getElem (by rw [al5.len]; exact c)⟩
            obtain ⟨lot', el', lb, rfl, elb⟩ := al5.get ey
            obtain rfl : lot' = lot := Option.some.inj (el'.symm.trans el)
            refine iteT ⟨_, rfl, _, rfl, r, its5, (n : Nat), _, rfl, rfl, SqL.of e5, atI_nat ey, lb, _, rfl, .inr (SqT.of elb), fun D kD => ?_⟩
            exact ⟨D, lot', rfl, same_new kD _, upd_same, .inr el⟩
          · rw [decide_eq_false (by omega)]
            exact iteF ⟨by show 0 ≤ sizeLine; decide, fun D kD => ⟨D, [], rfl, same_new kD _, upd_same, .inl ⟨rfl, by omega⟩⟩⟩
        rintro σ H6 ⟨D, lot, rfl, s6, eD, hlot⟩
        have h6 := h5.same s6
        have b6 := b5.same s6
        have k6 : Kept p H5 H6 := kept_same s6
        have hl6 : H6 l = some (.lst (ns.map V.str)) := k6 _ _ (k15 _ _ hl1 lp) lp
        have fin2 : ∀ r' tl' H', Kept p H6 H' → BoxAt H' p → LosH H' r' tl' → (∀ l ∈ tl', LotIn ns l) → tl'.length ≤ tl.length + 1 → i + 1 ≤ (1 + d).toNat ∧ ∃ r, S [some (.ref p), some (.ref a), some (.ref l), some (.ref r'), some x, some (.int kd), some (.int (n : Nat)), some (.ref D)] r ∧ Inv H' r (i + 1) :=
          fun r' tl' H' k => fin r' tl' H' _ _ _ (k6.trans k)
        have mc : ∀ i j, ∀ l ∈ cutN tl i j, LotIn ns l := fun i j l m => mi l (cutN_mem m)
        have n1 : some (((n : Nat) : Int) + 1) = (some (n + 1)).map fun n : Nat => ((n : Nat) : Int) := rfl
        have n2 : some (((n : Nat) : Int) + 2) = (some (n + 2)).map fun n : Nat => ((n : Nat) : Int) := rfl
        clear h5 al5 e5 k15 fin b5 k6
        by_cases c0 : kd = 0
        · subst c0
          refine ⟨_, rfl, rfl, _, rfl, ?_⟩
          rw [decide_eq_true (by rfl)]
          refine iteT (iteT ?_)
          refine ⟨_, rfl, _, rfl, _, rfl, rd_slLos none (some n) rfl rfl h6 fun p1 H7 s7 g1 => ?_⟩
          refine ⟨_, rfl, _, rfl, p, l, _, rfl, (b6).same s7, s7 _ _ (hl6), lp, ⟨by rw [List.length_map]; have := List.length_pos_iff.mpr ok.ne; omega, by rw [List.length_map]; have := ok.ln; omega⟩, fun v H8 mv k8 b8 => ⟨by show 1 ≤ sizeLine; decide, fun t8 kt8 => ⟨by show 1 ≤ sizeLine; decide, fun t9 kt9 => ?_⟩⟩⟩
          obtain ⟨nm, hnm, rfl⟩ := List.mem_map.mp mv
          have s9 := same_new kt8 (.tup [V.str nm])
          have g9 : LosH (upd (upd H8 t8 (.tup [V.str nm])) t9 (.lst [.ref t8])) t9 [[nm]] := LosH.new kt9 (.cons ⟨t8, rfl, upd_same⟩ .nil)
          have s10 := s9.trans (same_new kt9 (.lst [.ref t8]))
          generalize upd (upd H8 t8 (.tup [V.str nm])) t9 (.lst [.ref t8]) = H9 at g9 s10 ⊢
          have bp : ∀ {q : Addr} {t : List Lot}, LosH H7 q t → q ≠ p → LosH H9 q t := fun h n => (h.kept n k8 (((b6).same s7).kept k8)).same s10
          have p1p : p1 ≠ p := los_ne g1 (b6.same s7)
          have cl1 : (cutN tl none (some n)).length + (cutN tl (some n) none).length ≤ tl.length := by
            unfold cutN; simp only [Option.getD, List.drop_zero, List.length_take, List.length_drop]; omega
          refine rd_catLos (bp g1 p1p) g9 (by show _ + 1 ≤ _; omega) fun p3 H10 s11 g10 => ?_
          refine ⟨_, rfl, _, rfl, _, rfl, ?_⟩
          dsimp only [tNoPart]
          refine rd_slLos (some n) none rfl rfl ((bp (h6 |>.same s7) rp).same s11) fun p4 H11 s12 g11 => ?_
          refine rd_catLos (g10.same s12) g11 (by rw [List.length_append]; show _ + 1 + _ ≤ _; omega) fun p5 H12 s13 g12 => ?_
          refine fin2 p5 _ H12 ((((kept_same (Same.refl H6) : Kept p H6 H6)).trans (kept_same s7)).trans (k8.sm (((s10.trans s11).trans s12).trans s13))) (b8.same (((s10.trans s11).trans s12).trans s13)) g12 (fun y hy => ?_) (by rw [List.length_append, List.length_append]; show _ + 1 + _ ≤ _; omega)
          rcases List.mem_append.mp hy with hy | hy
          · rcases List.mem_append.mp hy with hy | hy
            · exact mc _ _ y hy
            · rw [List.mem_singleton.mp hy]; exact lotIn_one hnm
          · exact mc _ _ y hy
        refine ⟨_, rfl, rfl, _, rfl, ?_⟩
        rw [decide_eq_false (fun e => c0 (by injection e))]
        refine iteF ?_
        by_cases cl : lot = []
        · subst cl
          refine ⟨_, rfl, by show 0 ≤ sizeLine; decide, fun t7 kt7 => ?_⟩
          have s0 := same_new kt7 (.lst [])
          have e7 : upd H6 t7 (.lst []) t7 = some (.lst []) := upd_same
          generalize upd H6 t7 (.lst []) = H0 at s0 e7 ⊢
          refine ⟨.list [], .list [], .lst (SqL.of (s0 _ _ eD)) .nil, .lst (SqL.of e7) .nil, by decide, by decide, _, rfl, ?_⟩
          rw [eqv_nilL, decide_eq_true (by rfl)]
          refine iteT ?_
          refine ⟨_, rfl, _, rfl, _, rfl, rd_slLos none (some n) rfl rfl (h6.same s0) fun p1 H7 s7 g1 => ?_⟩
          refine ⟨_, rfl, _, rfl, p, l, _, rfl, (b6.same s0).same s7, s7 _ _ (s0 _ _ hl6), lp, ⟨by rw [List.length_map]; have := List.length_pos_iff.mpr ok.ne; omega, by rw [List.length_map]; have := ok.ln; omega⟩, fun v H8 mv k8 b8 => ⟨by show 1 ≤ sizeLine; decide, fun t8 kt8 => ⟨by show 1 ≤ sizeLine; decide, fun t9 kt9 => ?_⟩⟩⟩
          obtain ⟨nm, hnm, rfl⟩ := List.mem_map.mp mv
          have s9 := same_new kt8 (.tup [V.str nm])
          have g9 : LosH (upd (upd H8 t8 (.tup [V.str nm])) t9 (.lst [.ref t8])) t9 [[nm]] := LosH.new kt9 (.cons ⟨t8, rfl, upd_same⟩ .nil)
          have s10 := s9.trans (same_new kt9 (.lst [.ref t8]))
          generalize upd (upd H8 t8 (.tup [V.str nm])) t9 (.lst [.ref t8]) = H9 at g9 s10 ⊢
          have bp : ∀ {q : Addr} {t : List Lot}, LosH H7 q t → q ≠ p → LosH H9 q t := fun h n => (h.kept n k8 (((b6.same s0).same s7).kept k8)).same s10
          have p1p : p1 ≠ p := los_ne g1 ((b6.same s0).same s7)
          have cl1 : (cutN tl none (some n)).length + (cutN tl (some n) none).length ≤ tl.length := by
            unfold cutN; simp only [Option.getD, List.drop_zero, List.length_take, List.length_drop]; omega
          refine rd_catLos (bp g1 p1p) g9 (by show _ + 1 ≤ _; omega) fun p3 H10 s11 g10 => ?_
          refine ⟨_, rfl, _, rfl, _, rfl, ?_⟩
          dsimp only [tNoPart]
          refine rd_slLos (some n) none rfl rfl ((bp ((h6.same s0) |>.same s7) rp).same s11) fun p4 H11 s12 g11 => ?_
          refine rd_catLos (g10.same s12) g11 (by rw [List.length_append]; show _ + 1 + _ ≤ _; omega) fun p5 H12 s13 g12 => ?_
          refine fin2 p5 _ H12 ((((kept_same s0 : Kept p H6 H0)).trans (kept_same s7)).trans (k8.sm (((s10.trans s11).trans s12).trans s13))) (b8.same (((s10.trans s11).trans s12).trans s13)) g12 (fun y hy => ?_) (by rw [List.length_append, List.length_append]; show _ + 1 + _ ≤ _; omega)
          rcases List.mem_append.mp hy with hy | hy
          · rcases List.mem_append.mp hy with hy | hy
            · exact mc _ _ y hy
            · rw [List.mem_singleton.mp hy]; exact lotIn_one hnm
          · exact mc _ _ y hy
        have el : tl[n]? = some lot := by
          rcases hlot with ⟨z, _⟩ | h
          · exact absurd z cl
          · exact h
        have lo : LotIn ns lot := mi lot (at_mem el)
        have l4 := LotIn.len ok lo
        have nl : n < tl.length := (List.getElem?_eq_some_iff.mp el).1
        refine ⟨_, rfl, by show 0 ≤ sizeLine; decide, fun t7 kt7 => ?_⟩
        have s0 := same_new kt7 (.lst [])
        have e7 : upd H6 t7 (.lst []) t7 = some (.lst []) := upd_same
        generalize upd H6 t7 (.lst []) = H0 at s0 e7 ⊢
        refine ⟨.list (lot.map .str), .list [], .lst (SqL.of (s0 _ _ eD)) (dp_strs lot), .lst (SqL.of e7) .nil, (sh_lst (n := 0) fun x hx => sh_str (ok.nm x (lo.2.2 x hx))).ok (by decide), by decide, _, rfl, ?_⟩
        rw [eqv_nilL, decide_eq_false (by rw [List.map_eq_nil_iff]; exact cl)]
        refine iteF ?_
        have h0 := h6.same s0
        have eD0 := s0 _ _ eD
        have fin3 : ∀ r' tl' H', Same H0 H' → LosH H' r' tl' → (∀ l ∈ tl', LotIn ns l) → tl'.length ≤ tl.length + 1 → i + 1 ≤ (1 + d).toNat ∧ ∃ r, S [some (.ref p), some (.ref a), some (.ref l), some (.ref r'), some x, some (.int kd), some (.int (n : Nat)), some (.ref D)] r ∧ Inv H' r (i + 1) :=
          fun r' tl' H' s h t n => fin2 r' tl' H' (kept_same (s0.trans s)) (b6.same (s0.trans s)) h t n
        have b0 := b6.same s0
        clear hlot e7 kt7 eD h6 hl6 fin2 s0 b6
        refine ⟨_, rfl, rfl, _, rfl, ?_⟩
        by_cases c1 : kd = 1
        · subst c1
          rw [decide_eq_true (by rfl)]
          refine iteT ⟨_, rfl, _, rfl, _, rfl, rd_slLos none (some n) rfl rfl h0 fun p1 H7 s7 g1 => ?_⟩
          exact fin3 p1 _ H7 s7 g1 (mc _ _) (by unfold cutN; simp only [Option.getD, List.drop_zero, List.length_take]; omega)
        rw [decide_eq_false (fun e => c1 (by injection e))]
        refine iteF ⟨_, rfl, rfl, _, rfl, ?_⟩
        by_cases c2 : kd = 2
        · subst c2
          rw [decide_eq_true (by rfl)]
          refine iteT ⟨_, rfl, _, rfl, _, rfl, rd_slLos none (some n) rfl rfl h0 fun p1 H7 s7 g1 => ?_⟩
          refine ⟨_, rfl, _, rfl, _, _, rfl, rfl, _, rfl, _, rfl, _, _, rfl, rfl, _, rfl, rd_slLos (some (n + 1)) (some (n + 2)) n1 n2 (h0.same s7) fun p2 H8 s8 g2 => ?_⟩
          refine rd_catLos (g1.same s8) g2 ?_ fun p3 H9 s9 g3 => ?_
          · unfold cutN; simp only [Option.getD, List.drop_zero, List.length_take, List.length_drop]; omega
          have s79 := (s7.trans s8).trans s9
          refine ⟨_, rfl, _, rfl, _, rfl, _, rfl, _, _, rfl, rfl, _, rfl, rd_slLos (some n) (some (n + 1)) rfl n1 (h0.same s79) fun p4 H10 s10 g4 => ?_⟩
          refine rd_catLos (g3.same s10) g4 ?_ fun p5 H11 s11 g5 => ?_
          · unfold cutN; simp only [Option.getD, List.drop_zero, List.length_take, List.length_drop, List.length_append]; omega
          have s711 := (s79.trans s10).trans s11
          refine ⟨_, rfl, _, rfl, _, _, rfl, rfl, _, rfl, ?_⟩
          dsimp only [tNoPart]
          refine rd_slLos (some (n + 2)) none n2 rfl (h0.same s711) fun p6 H12 s12 g6 => ?_
          refine rd_catLos (g5.same s12) g6 ?_ fun p7 H13 s13 g7 => ?_
          · unfold cutN; simp only [Option.getD, List.drop_zero, List.length_take, List.length_drop, List.length_append]; omega
          refine fin3 p7 _ H13 ((s711.trans s12).trans s13) g7 (fun y hy => ?_) ?_
          · simp only [List.mem_append] at hy
            rcases hy with ((hy | hy) | hy) | hy <;> exact mc _ _ y hy
          · unfold cutN; simp only [Option.getD, List.drop_zero, List.length_take, List.length_drop, List.length_append]; omega
        rw [decide_eq_false (fun e => c2 (by injection e))]
        refine iteF ⟨_, rfl, rfl, _, rfl, ?_⟩
        have k4 : i + 1 ≤ (1 + d).toNat ∧ ∃ r2, S [some (.ref p), some (.ref a), some (.ref l), some (.ref r), some x, some (.int kd), some (.int (n : Nat)), some (.ref D)] r2 ∧ Inv H0 r2 (i + 1) := fin3 r tl H0 (Same.refl _) h0 mi (by omega)
        obtain ⟨its0, e0, al0⟩ := id h0
        by_cases c3 : kd = 3
        · subst c3
          rw [decide_eq_true (by rfl)]
          refine iteT ⟨_, rfl, _, _, rfl, rfl, _, rfl, r, its0, rfl, .inl (SqL.of e0), _, _, rfl, rfl, _, rfl, ?_⟩
          rw [al0.len]
          by_cases c : n + 1 < tl.length
          · rw [decide_eq_true (by omega)]
            obtain ⟨lot2, el2⟩ : ∃ lot2, tl[n + 1]? = some lot2 := ⟨_, List.getElem?_eq_getElem c⟩
            obtain ⟨y, ey⟩ : ∃ y, its0[n + 1]? = some y := ⟨_, List.getElem?_eq_getElem (by rw [al0.len]; exact c)⟩
            obtain ⟨lot', el', lb, rfl, elb⟩ := al0.get ey
            obtain rfl : lot' = lot2 := Option.some.inj (el'.symm.trans el2)
            have lo2 := mi lot' (at_mem el2)
            have l42 := LotIn.len ok lo2
            refine iteT ⟨_, rfl, _, rfl, _, rfl, rd_slLos none (some n) rfl rfl h0 fun p1 H7 s7 g1 => ?_⟩
            refine ⟨_, rfl, _, rfl, _, rfl, _, _, rfl, rfl, r, its0, ((n + 1 : Nat) : Int), _, rfl, rfl, SqL.of (s7 _ _ e0), atI_nat ey, lb, _, rfl, .inr (SqT.of (s7 _ _ elb)), fun q kq => ?_⟩
            have s8 := same_new kq (.lst (lot'.map V.str))
            have e8 : upd H7 q (.lst (lot'.map V.str)) q = some (.lst (lot'.map V.str)) := upd_same
            generalize upd H7 q (.lst (lot'.map V.str)) = H8 at s8 e8 ⊢
            refine ⟨D, q, _, _, rfl, rfl, (s7.trans s8) _ _ eD0, e8, by rw [List.length_map, List.length_map, sizeLine_eq]; omega, fun cc kcc => ?_⟩
            rw [← List.map_append]
            have s9 := same_new kcc (.lst ((lot ++ lot').map V.str))
            have e9 : upd H8 cc (.lst ((lot ++ lot').map V.str)) cc = some (.lst ((lot ++ lot').map V.str)) := upd_same
            generalize upd H8 cc (.lst ((lot ++ lot').map V.str)) = H9 at s9 e9 ⊢
            have hlm : (lot ++ lot').length ≤ 1000 := by rw [List.length_append]; omega
            dsimp only [tNil]
            unfold rSet
            refine .inl ⟨cc, lot ++ lot', rfl, SqX.lst e9, hlm, fun b m hb nd ml mm => ?_⟩
            unfold rSorted2
            refine .inl ⟨b, m, rfl, upd_same, Nat.le_trans ml hlm, fun ys pp pm so hp => ⟨pp, ys.map V.str, rfl, .inl ⟨SqL.of upd_same, fun u hu => ?_⟩⟩⟩
            have ee : ys = lotS (lot ++ lot') := lotS_eq (sorted_asc so (pm.nodup_iff.mpr nd)) fun x => pm.mem_iff.trans (mm x)
            subst ee
            change upd H9 b (SetT P w b m) pp = none at hp
            have s10 : Same H9 (upd (upd (upd H9 b (SetT P w b m)) pp (.lst ((lotS (lot ++ lot')).map V.str))) u (.tup ((lotS (lot ++ lot')).map V.str))) := ((same_new hb (SetT P w b m)).trans (same_new hp (.lst ((lotS (lot ++ lot')).map V.str)))).trans (same_new hu (.tup ((lotS (lot ++ lot')).map V.str)))
            change upd (upd H9 b (SetT P w b m)) pp (.lst ((lotS (lot ++ lot')).map V.str)) u = none at hu
            have e10 : upd (upd (upd H9 b (SetT P w b m)) pp (.lst ((lotS (lot ++ lot')).map V.str))) u (.tup ((lotS (lot ++ lot')).map V.str)) u = some (.tup ((lotS (lot ++ lot')).map V.str)) := upd_same
            dsimp only [cxOf, Cx.nox]
            generalize upd (upd (upd H9 b (SetT P w b m)) pp (.lst ((lotS (lot ++ lot')).map V.str))) u (.tup ((lotS (lot ++ lot')).map V.str)) = H10 at s10 e10 ⊢
            refine ⟨by show 1 ≤ sizeLine; decide, fun t9 kt9 => ?_⟩
            have g9 : LosH (upd H10 t9 (.lst [.ref u])) t9 [lotS (lot ++ lot')] := LosH.new kt9 (.cons ⟨u, rfl, e10⟩ .nil)
            have s11 := ((s8.trans s9).trans s10).trans (same_new kt9 (.lst [.ref u]))
            generalize upd H10 t9 (.lst [.ref u]) = H11 at g9 s11 ⊢
            refine rd_catLos (g1.same s11) g9 ?_ fun p3 H12 s12 g3 => ?_
            · unfold cutN; simp only [Option.getD, List.drop_zero, List.length_take, List.length_cons, List.length_nil]; omega
            have s712 := (s7.trans s11).trans s12
            refine ⟨_, rfl, _, rfl, _, _, rfl, rfl, _, rfl, ?_⟩
            dsimp only [tNoPart]
            refine rd_slLos (some (n + 2)) none n2 rfl (h0.same s712) fun p6 H13 s13 g6 => ?_
            refine rd_catLos (g3.same s13) g6 ?_ fun p7 H14 s14 g7 => ?_
            · unfold cutN; simp only [Option.getD, List.drop_zero, List.length_take, List.length_drop, List.length_append, List.length_cons, List.length_nil]; omega
            refine fin3 p7 _ H14 ((s712.trans s13).trans s14) g7 (fun y hy => ?_) ?_
            · simp only [List.mem_append] at hy
              rcases hy with (hy | hy) | hy
              · exact mc _ _ y hy
              · rw [List.mem_singleton.mp hy]; exact lotS_in lo lo2
              · exact mc _ _ y hy
            · unfold cutN; simp only [Option.getD, List.drop_zero, List.length_take, List.length_drop, List.length_append, List.length_cons, List.length_nil]; omega
          · rw [decide_eq_false (by omega)]
            exact iteF ⟨_, rfl, rfl, _, rfl, iteF (iteF k4)⟩
        rw [decide_eq_false (fun e => c3 (by injection e))]
        refine iteF (iteF ⟨_, rfl, rfl, _, rfl, ?_⟩)
        by_cases c4 : kd = 4
        · subst c4
          rw [decide_eq_true (by rfl)]
          refine iteT ⟨_, rfl, D, _, rfl, .inl (SqL.of eD0), _, _, rfl, rfl, _, rfl, ?_⟩
          rw [List.length_map]
          by_cases c : 1 < lot.length
          · rw [decide_eq_true (by omega)]
            refine iteT ⟨_, rfl, _, rfl, _, rfl, rd_slLos none (some n) rfl rfl h0 fun p1 H7 s7 g1 => ?_⟩
            refine ⟨_, rfl, _, rfl, D, _, rfl, SqL.of (s7 _ _ eD0), fun q kq => ?_⟩
            rw [show cutV (lot.map V.str) none (some 1) = (cutN lot none (some 1)).map V.str from (cutV_N _ none (some 1)).trans (cutN_map ..)]
            have s8 := same_new kq (.lst ((cutN lot none (some 1)).map V.str))
            refine ⟨q, _, rfl, .inl ⟨SqL.of upd_same, fun q1 kq1 => ?_⟩⟩
            have s9 := s8.trans (same_new kq1 (.tup ((cutN lot none (some 1)).map V.str)))
            have e9 : upd (upd H7 q (.lst ((cutN lot none (some 1)).map V.str))) q1 (.tup ((cutN lot none (some 1)).map V.str)) q1 = some (.tup ((cutN lot none (some 1)).map V.str)) := upd_same
            generalize upd (upd H7 q (.lst ((cutN lot none (some 1)).map V.str))) q1 (.tup ((cutN lot none (some 1)).map V.str)) = H9 at s9 e9 ⊢
            clear s8
            refine ⟨_, rfl, _, rfl, D, _, rfl, SqL.of ((s7.trans s9) _ _ eD0), fun q kq => ?_⟩
            rw [show cutV (lot.map V.str) (some 1) none = (cutN lot (some 1) none).map V.str from (cutV_N _ (some 1) none).trans (cutN_map ..)]
            have s10 := same_new kq (.lst ((cutN lot (some 1) none).map V.str))
            refine ⟨q, _, rfl, .inl ⟨SqL.of upd_same, fun q2 kq2 => ?_⟩⟩
            have s11 := s10.trans (same_new kq2 (.tup ((cutN lot (some 1) none).map V.str)))
            have e11 : upd (upd H9 q (.lst ((cutN lot (some 1) none).map V.str))) q2 (.tup ((cutN lot (some 1) none).map V.str)) q2 = some (.tup ((cutN lot (some 1) none).map V.str)) := upd_same
            generalize upd (upd H9 q (.lst ((cutN lot (some 1) none).map V.str))) q2 (.tup ((cutN lot (some 1) none).map V.str)) = H11 at s11 e11 ⊢
            clear s10
            refine ⟨by show 2 ≤ sizeLine; decide, fun t9 kt9 => ?_⟩
            have g9 : LosH (upd H11 t9 (.lst [.ref q1, .ref q2])) t9 [cutN lot none (some 1), cutN lot (some 1) none] := LosH.new kt9 (.cons ⟨q1, rfl, s11 _ _ e9⟩ (.cons ⟨q2, rfl, e11⟩ .nil))
            have s12 := (s9.trans s11).trans (same_new kt9 (.lst [.ref q1, .ref q2]))
            generalize upd H11 t9 (.lst [.ref q1, .ref q2]) = H12 at g9 s12 ⊢
            refine rd_catLos (g1.same s12) g9 ?_ fun p3 H13 s13 g3 => ?_
            · unfold cutN; simp only [Option.getD, List.drop_zero, List.length_take, List.length_cons, List.length_nil]; omega
            have s713 := (s7.trans s12).trans s13
            refine ⟨_, rfl, _, rfl, _, _, rfl, rfl, _, rfl, ?_⟩
            dsimp only [tNoPart]
            refine rd_slLos (some (n + 1)) none n1 rfl (h0.same s713) fun p6 H14 s14 g6 => ?_
            refine rd_catLos (g3.same s14) g6 ?_ fun p7 H15 s15 g7 => ?_
            · unfold cutN; simp only [Option.getD, List.drop_zero, List.length_take, List.length_drop, List.length_append, List.length_cons, List.length_nil]; omega
            refine fin3 p7 _ H15 ((s713.trans s14).trans s15) g7 (fun y hy => ?_) ?_
            · simp only [List.mem_append] at hy
              rcases hy with (hy | hy) | hy
              · exact mc _ _ y hy
              · have sub : ∀ m : List Str, m.Sublist lot → m ≠ [] → LotIn ns m := fun m sb ne => ⟨ne, lo.2.1.sublist sb, fun x hx => lo.2.2 x (sb.subset hx)⟩
                simp only [List.mem_cons, List.not_mem_nil, or_false] at hy
                rcases hy with rfl | rfl
                · exact sub _ (List.take_sublist _ _) fun z => by have := congrArg List.length z; simp [cutN] at this; exact cl this
                · exact sub _ (List.drop_sublist _ _) fun z => by have := congrArg List.length z; simp [cutN] at this; omega
              · exact mc _ _ y hy
            · unfold cutN; simp only [Option.getD, List.drop_zero, List.length_take, List.length_drop, List.length_append, List.length_cons, List.length_nil]; omega
          · rw [decide_eq_false (by omega)]
            exact iteF k4
        rw [decide_eq_false (fun e => c4 (by injection e))]
        exact iteF (iteF k4)
      · rintro σ H3 ⟨hi, r, st, tl, k3, b3, h3, ti, tn⟩
        rw [List.length_map, List.length_range] at tn
        exact ⟨r, st, tl, k3, b3, h3, ti, by omega⟩
    rintro σ H2 ⟨r, ⟨o4, o5, o6, o7, rfl⟩, tl, k2, b2, ⟨its, e2, al2⟩, ti, tn⟩
    refine ⟨_, rfl, r, its, rfl, .inl ⟨SqL.of e2, fun t kt => ?_⟩⟩
    have s3 := same_new kt (.tup its)
    exact q t tl _ (fun b o e n => s3 _ _ (k2 _ _ (s1 _ _ e) n)) (b2.same s3) ⟨t, its, rfl, upd_same, al2.imp fun _ _ r => r.same s3⟩ ti (by omega)
end
end K6

namespace K6
open PySem PySem.Spec PyProof.Rows L2 Hb St Sq Ow En Zp RZ Rd Xb Da Lo Cq LamX Lc Lp Lg Sk
theorem nm_B {x : Str} (h : IsNm x) : nmB x = true := by
  unfold nmB
  rw [decide_eq_true h.2.1, nm_ascii h, nm_alpha h, nm_lower h]; rfl
theorem asc_D : ∀ l : List Str, l.Pairwise sLt → ascD (l.map .str) = true
  | [], _ => rfl
  | [_], _ => rfl
  | x :: y :: r, h => by
    obtain ⟨h1, h2⟩ := List.pairwise_cons.mp h
    show (decide (x.cps.toList < y.cps.toList) && ascD ((y :: r).map .str)) = true
    rw [asc_D (y :: r) h2, decide_eq_true (show x.cps.toList < y.cps.toList from h1 y List.mem_cons_self)]; rfl
theorem lot_D {nms l : List Str} (nok : NsOk nms) (h : LotIn nms l) : lotD (lD l) = true := by
  obtain ⟨h1, h2, h3⟩ := h
  show (!(l.map PyData.str).isEmpty && ((l.map PyData.str).all nmD && ascD (l.map .str))) = true
  have e1 : (l.map PyData.str).isEmpty = false := by cases l with | nil => exact absurd rfl h1 | cons _ _ => rfl
  have e2 : (l.map PyData.str).all nmD = true := by
    rw [List.all_map, List.all_eq_true]
    exact fun x hx => nm_B (nok.nm x (h3 x hx))
  rw [e1, e2, asc_D l h2]; rfl
theorem tale_D {nms : List Str} {ls : Tale} (nok : NsOk nms) (h : TlIn nms ls) : taleD (tD ls) = true := by
  show (ls.map lD).all lotD = true
  rw [List.all_map, List.all_eq_true]
  exact fun l hl => lot_D nok (tlIn_iff.mp h l hl)
theorem lot_sm {nms l : List Str} (nok : NsOk nms) (h : LotIn nms l) : Sm1 (lD l) := by
  refine ⟨by rw [List.length_map]; have := LotIn.len nok h; omega, fun d hd => ?_⟩
  obtain ⟨x, hx, rfl⟩ := List.mem_map.mp hd
  have := (nok.nm x (h.2.2 x hx)).2.1
  show x.length ≤ 1000
  omega
theorem tale_sm {nms : List Str} {ls : Tale} (nok : NsOk nms) (h : TlIn nms ls) (n : ls.length ≤ 1000) : Sm2 (tD ls) := by
  refine ⟨by rw [List.length_map]; exact n, fun d hd => ?_⟩
  obtain ⟨l, hl, rfl⟩ := List.mem_map.mp hd
  exact lot_sm nok (tlIn_iff.mp h l hl)
theorem no_first {d e : PyData} (h1 : taleD d = true) (h2 : taleD e = true) : firstNo [d, e] = none := by
  unfold firstNo
  rw [List.findIdx?_eq_none_iff]
  intro x hx
  simp only [List.mem_cons, List.not_mem_nil, or_false] at hx
  rcases hx with rfl | rfl
  · rw [h1]; rfl
  · rw [h2]; rfl
theorem first_0 {d e : PyData} (h1 : taleD d = false) : firstNo [d, e] = some 0 := by
  unfold firstNo
  rw [List.findIdx?_cons, h1]; rfl
theorem first_1 {d e : PyData} (h1 : taleD d = true) (h2 : taleD e = false) : firstNo [d, e] = some 1 := by
  unfold firstNo
  rw [List.findIdx?_cons, h1, List.findIdx?_cons, h2]; rfl
theorem notbl {xs : List V} : ∀ ps, HO.tup xs ≠ .tbl ps := fun ps z => by cases z
theorem notbl_l {xs : List V} : ∀ ps, HO.lst xs ≠ .tbl ps := fun ps z => by cases z
def KpX (p : Addr) (H H' : Hp) : Prop := ∀ b o, H b = some o → b ≠ p → (∀ ps, o ≠ .tbl ps) → H' b = some o
theorem KpX.trans {p : Addr} {H H1 H2 : Hp} (a : KpX p H H1) (b : KpX p H1 H2) : KpX p H H2 := fun c o e n t => b c o (a c o e n t) n t
theorem KpX.kept {p : Addr} {H H' : Hp} (k : Kept p H H') : KpX p H H' := fun b o e n _ => k b o e n
theorem KpX.same {p : Addr} {H H' : Hp} (k : Same H H') : KpX p H H' := fun b o e _ _ => k b o e
theorem KpX.ext {p : Addr} {H H' : Hp} (k : ExtN H H') : KpX p H H' := fun b o e _ t => k b o e t
/-- v holds d, wherever all but the box and the tables is as in H -/
def Nd (K : PySem.W.Frag) (p : Addr) (H : Hp) (v : V) (d : PyData) : Prop := ∀ H', KpX p H H' → Dp K H' v d
section
variable {K : PySem.W.Frag} {p : Addr} {H H' : Hp} {v : V} {d : PyData}
theorem Nd.on (n : Nd K p H v d) (k : KpX p H H') : Nd K p H' v d := fun H2 k2 => n H2 (k.trans k2)
theorem dpa_of {H : Hp} : ∀ {vs : List V} {ds : List PyData}, All2 (Dp K H) vs ds → DpAll K H vs ds
  | _, _, .nil => .nil
  | _, _, .cons h t => .cons h (dpa_of t)
theorem Nd.tup {a : Addr} {xs : List V} {ds : List PyData} (e : H a = some (.tup xs)) (hb : BoxAt H p) (al : All2 (Nd K p H) xs ds) : Nd K p H (.ref a) (.tuple ds) := fun H' k =>
  .tup (SqT.of (k _ _ e (hb.neT e) notbl)) (dpa_of (al.imp fun _ _ n => n H' k))
theorem Nd.lst {a : Addr} {xs : List V} {ds : List PyData} (e : H a = some (.lst xs)) (n1 : a ≠ p) (al : All2 (Nd K p H) xs ds) : Nd K p H (.ref a) (.list ds) := fun H' k =>
  .lst (SqL.of (k _ _ e n1 notbl_l)) (dpa_of (al.imp fun _ _ n => n H' k))
theorem nd_str (x : Str) : Nd K p H (.str x) (.str x) := fun _ _ => .str x
theorem nd_int (i : Int) : Nd K p H (.int i) (.int i) := fun _ _ => .int i
theorem nd_non : Nd K p H .non .none := fun _ _ => .non
theorem nd_strs : ∀ lot : List Str, All2 (Nd K p H) (lot.map V.str) (lot.map .str)
  | [] => .nil
  | x :: r => .cons (nd_str x) (nd_strs r)
theorem nd_lot {lot : List Str} (hb : BoxAt H p) (h : LotH H v lot) : Nd K p H v (lD lot) := by
  obtain ⟨b, rfl, e⟩ := h
  exact .tup e hb (nd_strs lot)
theorem nd_lots (hb : BoxAt H p) : ∀ {its : List V} {ls : Tale}, All2 (LotH H) its ls → All2 (Nd K p H) its (ls.map lD)
  | _, _, .nil => .nil
  | _, _, .cons h t => .cons (nd_lot hb h) (nd_lots hb t)
end
/-- no tale -/
structure BadOk (d : PyData) : Prop where
  nt : taleD d = false
  s2 : Sm2 d
/-- no lot -/
structure BadLot (d : PyData) : Prop where
  nl : lotD d = false
  s1 : Sm1 d
def shB : PyData → Bool
  | .str x => decide (x.length ≤ 1000)
  | _ => true
def sm1B : PyData → Bool
  | .tuple ds => decide (ds.length ≤ 1000) && ds.all shB
  | _ => true
def sm2B : PyData → Bool
  | .tuple ds => decide (ds.length ≤ 1000) && ds.all sm1B
  | _ => true
theorem sh_by : ∀ d : PyData, shB d = true → ShortD d
  | .str x, h => show x.length ≤ 1000 from of_decide_eq_true h
  | .int _, _ => trivial
  | .none, _ => trivial
  | .bool _, _ => trivial
  | .tuple _, _ => trivial
  | .list _, _ => trivial
  | .dict _, _ => trivial
theorem sm1_by : ∀ d : PyData, sm1B d = true → Sm1 d
  | .tuple ds, h => by
    have h : (decide (ds.length ≤ 1000) && ds.all shB) = true := h
    rw [Bool.and_eq_true, decide_eq_true_eq, List.all_eq_true] at h
    exact ⟨h.1, fun d hd => sh_by d (h.2 d hd)⟩
  | .int _, _ => trivial
  | .none, _ => trivial
  | .bool _, _ => trivial
  | .str _, _ => trivial
  | .list _, _ => trivial
  | .dict _, _ => trivial
theorem sm2_by : ∀ d : PyData, sm2B d = true → Sm2 d
  | .tuple ds, h => by
    have h : (decide (ds.length ≤ 1000) && ds.all sm1B) = true := h
    rw [Bool.and_eq_true, decide_eq_true_eq, List.all_eq_true] at h
    exact ⟨h.1, fun d hd => sm1_by d (h.2 d hd)⟩
  | .int _, _ => trivial
  | .none, _ => trivial
  | .bool _, _ => trivial
  | .str _, _ => trivial
  | .list _, _ => trivial
  | .dict _, _ => trivial
theorem bad_by {d : PyData} (h : (!taleD d && sm2B d) = true) : BadOk d := by
  simp only [Bool.and_eq_true, Bool.not_eq_true'] at h
  exact ⟨h.1, sm2_by d h.2⟩
theorem badl_by {d : PyData} (h : (!lotD d && sm1B d) = true) : BadLot d := by
  simp only [Bool.and_eq_true, Bool.not_eq_true'] at h
  exact ⟨h.1, sm1_by d h.2⟩
theorem bad_list (ds : List PyData) : BadOk (.list ds) := ⟨rfl, trivial⟩
theorem bad_more {nms : List Str} {ls : Tale} {d : PyData} (nok : NsOk nms) (h : TlIn nms ls) (n : ls.length ≤ 100) (b : BadLot d) : BadOk (.tuple (ls.map lD ++ [d])) := by
  refine ⟨?_, by rw [List.length_append, List.length_map]; show _ + 1 ≤ _; omega, fun x hx => ?_⟩
  · show (ls.map lD ++ [d]).all lotD = false
    rw [List.all_append, show [d].all lotD = false by show (lotD d && true) = false; rw [b.nl]; rfl, Bool.and_false]
  · rcases List.mem_append.mp hx with hx | hx
    · obtain ⟨l, hl, rfl⟩ := List.mem_map.mp hx
      exact lot_sm nok (tlIn_iff.mp h l hl)
    · rw [List.mem_singleton.mp hx]; exact b.s1
end K6

namespace K6
open PySem PySem.Spec PyProof.Rows L2 Hb St Sq Ow En Zp RZ Rd Xb Da Lo
def Good (t : Tale) : Prop := ∀ l ∈ t, l ≠ [] ∧ l.Pairwise sLt
theorem TlIn.good {ns : List Str} {t : Tale} (h : TlIn ns t) : Good t := fun l m => ⟨h.ne l m, h.asc l m⟩
/-! ### tones heard -/
def tonL (g : Str → Int) (m : Lot) : List Int := lotI ((m.filter fun x => decide (0 < g x)).map g)
def tonT (g : Str → Int) (t : Tale) : List (List Int) := (t.map (tonL g)).filter fun l => !decide (l = [])
theorem ton_thin {g : Str → Int} {bs : Lot} (hg : ∀ x, 0 < g x ↔ x ∈ bs) (t : Tale) : tonT g t = (thinT bs t).map fun m => lotI (m.map g) := by
  have e : ∀ m, tonL g m = lotI ((thinL bs m).map g) := fun m => by
    unfold tonL thinL
    rw [List.filter_congr fun x _ => decide_eq_decide.mpr (hg x)]
  unfold tonT thinT
  induction t with
  | nil => rfl
  | cons m r ih =>
    rw [List.map_cons, List.map_cons, e]
    by_cases c : thinL bs m = []
    · rw [List.filter_cons_of_neg (by rw [c]; simp [lotI, lotBy]), List.filter_cons_of_neg (by simp [c]), ih]
    · have : lotI ((thinL bs m).map g) ≠ [] := fun z => by
        obtain ⟨x, r', ex⟩ := List.exists_cons_of_ne_nil c
        have : g x ∈ lotI ((thinL bs m).map g) := mem_lotI.mpr (List.mem_map.mpr ⟨x, by rw [ex]; exact List.mem_cons_self, rfl⟩)
        rw [z] at this
        cases this
      rw [List.filter_cons_of_pos (by simp [this]), List.filter_cons_of_pos (by simp [c]), List.map_cons, ih]
theorem map_inj_on {α β : Type} {f : α → β} : ∀ {l m : List α}, (∀ x ∈ l, ∀ y ∈ m, f x = f y → x = y) → l.map f = m.map f → l = m
  | [], [], _, _ => rfl
  | [], _ :: _, _, e => by cases e
  | _ :: _, [], _, e => by cases e
  | x :: l, y :: m, h, e => by
    rw [List.map_cons, List.map_cons] at e
    injection e with e1 e2
    rw [h x (.head _) y (.head _) e1, map_inj_on (fun a ha b hb => h a (.tail _ ha) b (.tail _ hb)) e2]
theorem ton_two {g : Str → Int} {bs : Lot} (hg : ∀ x, 0 < g x ↔ x ∈ bs) (inj : ∀ x ∈ bs, ∀ y ∈ bs, g x = g y → x = y) {a b : Tale} (ha : Good a) (hb : Good b) (h : thinT bs a ≠ thinT bs b) : tonT g a ≠ tonT g b := fun e => h (by
  rw [ton_thin hg, ton_thin hg] at e
  have ok : ∀ t : Tale, Good t → ∀ m ∈ thinT bs t, m.Pairwise sLt ∧ ∀ x ∈ m, x ∈ bs := fun t gt m hm => by
    obtain ⟨_, l, hl, rfl⟩ := thin_ne hm
    exact ⟨(gt l hl).2.sublist (thinL_sub _ _), fun x hx => (thin_in.mp hx).2⟩
  refine map_inj_on (fun m hm n hn k => ?_) e
  obtain ⟨a1, i1⟩ := ok a ha m hm
  obtain ⟨a2, i2⟩ := ok b hb n hn
  have mem : ∀ m : Lot, (∀ x ∈ m, x ∈ bs) → ∀ x ∈ bs, x ∈ m ↔ g x ∈ lotI (m.map g) := fun m im x hx => by
    rw [mem_lotI, List.mem_map]
    exact ⟨fun h => ⟨x, h, rfl⟩, fun ⟨y, hy, ey⟩ => inj y (im y hy) x hx ey ▸ hy⟩
  refine (lotS_eq a1 fun x => ?_).trans (lotS_eq a2 fun x => Iff.rfl).symm
  constructor
  · intro hx
    have := (mem m i1 x (i1 x hx)).mp hx
    rw [k] at this
    exact (mem n i2 x (i1 x hx)).mpr this
  · intro hx
    have := (mem n i2 x (i2 x hx)).mp hx
    rw [← k] at this
    exact (mem m i1 x (i2 x hx)).mpr this)
/-! ### a naming's tones -/
def tone : Lot → List Int → Str → Int
  | b :: bs, n :: ns, x => if b = x then n else tone bs ns x
  | _, _, _ => 0
theorem valV_snoc_ne {κ : Type} [DecidableEq κ] {kvs : List (κ × V)} {k k' : κ} {v : V} (h : k' ≠ k) : valV (kvs ++ [(k', v)]) k = valV kvs k := by
  unfold valV
  rw [List.find?_append]
  cases kvs.find? fun kv => decide (kv.1 = k) with
  | some z => rfl
  | none => simp [List.find?_cons, h]
theorem merge_new : ∀ {more kvs : List (Key × V)}, ((kvs ++ more).map (·.1)).Nodup → mergeK kvs more = kvs ++ more
  | [], kvs, _ => by rw [List.append_nil]; rfl
  | (k, v) :: r, kvs, h => by
    have n : kvs.any (fun kv => decide (kv.1 = k)) = false := by
      rw [List.any_eq_false]
      intro kv hkv
      rw [List.map_append, List.nodup_append] at h
      have := h.2.2 kv.1 (List.mem_map.mpr ⟨kv, hkv, rfl⟩) k (by simp)
      simpa using this
    show mergeK (putK kvs k v) r = _
    have e : putK kvs k v = kvs ++ [(k, v)] := by
      unfold putK
      rw [n, if_neg (by decide)]
    rw [e, merge_new (by rw [List.append_assoc]; exact h), List.append_assoc]; rfl
theorem tone_val : ∀ {bs : Lot} {ns : List Int}, bs.length = ns.length → ∀ x : Str, (valV ((bs.map (Sum.inr : Str → Key)).zip (ns.map V.int)) (.inr x)).getD (.int 0) = V.int (tone bs ns x)
  | [], ns, _, x => by unfold tone; rfl
  | b :: bs, [], h, _ => by simp at h
  | b :: bs, n :: ns, h, x => by
    rw [List.map_cons, List.map_cons, List.zip_cons_cons]
    unfold tone
    by_cases c : b = x
    · subst c
      rw [if_pos rfl, valV_pos rfl]; rfl
    · rw [if_neg c, valV_neg (fun z => c (by injection z))]
      exact tone_val (by simpa using h) x
theorem tone_pos {bs : Lot} {ns : List Int} : bs.length = ns.length → (∀ n ∈ ns, 0 < n) → ∀ x, 0 < tone bs ns x ↔ x ∈ bs := by
  induction bs generalizing ns with
  | nil => intro _ _ x; unfold tone; simp
  | cons b bs ih =>
    intro h p x
    cases ns with
    | nil => simp at h
    | cons n ns =>
      unfold tone
      by_cases c : b = x
      · subst c
        rw [if_pos rfl]
        simp [p n (.head _)]
      · rw [if_neg c, ih (by simpa using h) (fun m hm => p m (.tail _ hm)) x, List.mem_cons]
        exact ⟨.inr, fun h => h.elim (fun z => absurd z.symm c) id⟩
theorem tone_mem {bs : Lot} {ns : List Int} : bs.length = ns.length → ∀ x ∈ bs, tone bs ns x ∈ ns := by
  induction bs generalizing ns with
  | nil => intro _ x h; cases h
  | cons b bs ih =>
    intro h x hx
    cases ns with
    | nil => simp at h
    | cons n ns =>
      unfold tone
      by_cases c : b = x
      · rw [if_pos c]; exact List.mem_cons_self
      · rw [if_neg c]
        rcases List.mem_cons.mp hx with e | hx
        · exact absurd e.symm c
        · exact List.mem_cons_of_mem _ (ih (by simpa using h) x hx)
theorem tone_inj {bs : Lot} {ns : List Int} : bs.length = ns.length → ns.Nodup → ∀ x ∈ bs, ∀ y ∈ bs, tone bs ns x = tone bs ns y → x = y := by
  induction bs generalizing ns with
  | nil => intro _ _ x h; cases h
  | cons b bs ih =>
    intro h nd x hx y hy e
    cases ns with
    | nil => simp at h
    | cons n ns =>
      obtain ⟨n1, n2⟩ := List.nodup_cons.mp nd
      unfold tone at e
      by_cases c : b = x <;> by_cases d : b = y
      · exact c.symm.trans d
      · rw [if_pos c, if_neg d] at e
        rcases List.mem_cons.mp hy with z | hy
        · exact absurd z.symm d
        · exact absurd (e ▸ tone_mem (by simpa using h) y hy) n1
      · rw [if_neg c, if_pos d] at e
        rcases List.mem_cons.mp hx with z | hx
        · exact absurd z.symm c
        · exact absurd (e ▸ tone_mem (by simpa using h) x hx) n1
      · rw [if_neg c, if_neg d] at e
        rcases List.mem_cons.mp hx with z | hx
        · exact absurd z.symm c
        rcases List.mem_cons.mp hy with z | hy
        · exact absurd z.symm d
        exact ih (by simpa using h) n2 x hx y hy e
/-! ### plain namings: all of few bells -/
abbrev Nam := List Int
def mxI (n : Nam) : Int := n.foldl max 0
/-- as the program makes them -/
def growN (n : Nam) : List Nam := (List.range (mxI n + 2).toNat).map fun t : Nat => n ++ [(t : Int)]
def namsP : Nat → List Nam
  | 0 => [[]]
  | k + 1 => (namsP k).flatMap growN
/-- the number of a tone among those that came first -/
def idxN : List Int → Int → Nat
  | [], _ => 0
  | x :: r, t => if x = t then 0 else idxN r t + 1
/-- the plain naming: tones so far, what is told so far -/
def plI : List Int → List Int → List Int → List Int
  | _, acc, [] => acc
  | ts, acc, t :: r => if 0 < t then (if t ∈ ts then plI ts (acc ++ [(idxN ts t : Int) + 1]) r else plI (ts ++ [t]) (acc ++ [(ts.length : Int) + 1]) r) else plI ts (acc ++ [0]) r
def plainN (n : Nam) : Nam := plI [] [] n
/-- as the law makes them -/
def growL (k : Nat) (n : Nam) : List Nam := ((List.range (k + 1)).map fun t : Nat => n ++ [(t : Int)]).filter fun x => decide (plainN x = x)
def namsL (k : Nat) : Nat → List Nam
  | 0 => [[]]
  | m + 1 => (namsL k m).flatMap (growL k)
theorem namsL_in : ∀ k, k ≤ 4 → ∀ m, m ≤ k → (namsL k m).length ≤ 52 ∧ ∀ n ∈ namsL k m, n.length = m ∧ ∀ t ∈ n, 0 ≤ t := by decide +kernel
theorem nams_eq : ∀ k, k ≤ 4 → namsL k k = namsP k := by decide +kernel
theorem nams_len : ∀ k, k ≤ 4 → (namsP k).length ≤ 52 := by decide +kernel
theorem nams_in : ∀ k, k ≤ 4 → ∀ n ∈ namsP k, n.length = k ∧ ∀ t ∈ n, 0 ≤ t ∧ t ≤ 4 := by decide +kernel
theorem nams_own : ∀ k, k ≤ 4 → ((List.range k).map fun i : Nat => (i : Int) + 1) ∈ namsP k := by decide +kernel
theorem foldl_max : ∀ (n : Nam) (a : Int), a ≤ n.foldl max a ∧ (∀ x ∈ n, x ≤ n.foldl max a) ∧ (n.foldl max a = a ∨ n.foldl max a ∈ n)
  | [], a => ⟨Int.le_refl _, fun _ h => (by cases h), .inl rfl⟩
  | x :: n, a => by
    obtain ⟨h1, h2, h3⟩ := foldl_max n (max a x)
    rw [List.foldl_cons]
    refine ⟨by omega, fun y hy => ?_, ?_⟩
    · rcases List.mem_cons.mp hy with rfl | hy
      · omega
      · exact h2 y hy
    · rcases h3 with h | h
      · rw [h]
        rcases Int.le_total a x with c | c
        · exact .inr (by rw [Int.max_eq_right c]; exact List.mem_cons_self)
        · exact .inl (Int.max_eq_left c)
      · exact .inr (List.mem_cons_of_mem _ h)
theorem mx_is {n : Nam} {m : Int} (p : ∀ x ∈ n, 0 ≤ x) (h : m ∈ n) (k : ∀ y ∈ n, y ≤ m) : mxI n = m := by
  obtain ⟨h1, h2, h3⟩ := foldl_max n 0
  have := p m h
  have := h2 m h
  unfold mxI
  rcases h3 with e | e
  · omega
  · have := k _ e
    omega
/-! ### coarser ones -/
/-- as the law asks: pairs so far, pairs to come -/
def coS : List (Int × Int) → List (Int × Int) → Bool
  | _, [] => true
  | pre, (t, h) :: r => (!(decide (h = 0) && !decide (t = 0)) && pre.all fun q => !(decide (q.2 = h) && !decide (q.1 = t))) && coS (pre ++ [(t, h)]) r
/-- as the program asks: what is led so far -/
def ldG : List (Int × Int) → Int → Option Int
  | [], _ => none
  | (h, x) :: r, k => if h = k then some x else ldG r k
def coA : List (Int × Int) → List (Int × Int) → Bool
  | _, [] => true
  | led, (t, h) :: r => match ldG led h with
    | some x => decide (x = t) && coA led r
    | none => decide ((if 0 < h then t else 0) = t) && coA (led ++ [(h, if 0 < h then t else 0)]) r
def coarN (n m : Nam) : Bool := decide (n.length = m.length) && coS [] (n.zip m)
theorem ldG_snoc : ∀ (led : List (Int × Int)) (h x k : Int), ldG (led ++ [(h, x)]) k = match ldG led k with
    | some y => some y
    | none => if h = k then some x else none
  | [], h, x, k => rfl
  | (a, b) :: r, h, x, k => by
    show (if a = k then some b else ldG (r ++ [(h, x)]) k) = _
    show _ = match (if a = k then some b else ldG r k) with | some y => some y | none => if h = k then some x else none
    by_cases c : a = k
    · rw [if_pos c, if_pos c]
    · rw [if_neg c, if_neg c, ldG_snoc r]
theorem coA_eq : ∀ (r led pre : List (Int × Int)), (∀ q ∈ r, 0 ≤ q.2) → (∀ q ∈ pre, ldG led q.2 = some q.1) → (∀ k x, ldG led k = some x → ∃ q ∈ pre, q.2 = k ∧ q.1 = x) → (∀ q ∈ pre, q.2 = 0 → q.1 = 0) → coA led r = coS pre r
  | [], _, _, _, _, _, _ => rfl
  | (t, h) :: r, led, pre, pos, h1, h2, h3 => by
    have p0 := pos (t, h) List.mem_cons_self
    have pos' : ∀ q ∈ r, 0 ≤ q.2 := fun q hq => pos q (List.mem_cons_of_mem _ hq)
    unfold coA coS
    cases e : ldG led h with
    | some x =>
      show (decide (x = t) && coA led r) = _
      obtain ⟨q, hq, q2, q1⟩ := h2 h x e
      by_cases c : x = t
      · subst c
        have a1 : (!(decide (h = 0) && !decide (x = 0))) = true := by
          by_cases z : h = 0
          · simp [z, show x = 0 from q1 ▸ h3 q hq (q2.trans z)]
          · simp [z]
        have a2 : (pre.all fun q => !(decide (q.2 = h) && !decide (q.1 = x))) = true := List.all_eq_true.mpr fun y hy => by
          by_cases z : y.2 = h
          · have := h1 y hy
            rw [z, e] at this
            simp [Option.some.inj this]
          · simp [z]
        rw [a1, a2, decide_eq_true rfl, Bool.true_and, Bool.true_and]
        refine coA_eq r led (pre ++ [(x, h)]) pos' (fun y hy => ?_) (fun k z hk => ?_) (fun y hy => ?_)
        · rcases List.mem_append.mp hy with g | g
          · exact h1 y g
          · rw [List.mem_singleton.mp g]; exact e
        · obtain ⟨y, hy, g⟩ := h2 k z hk
          exact ⟨y, List.mem_append_left _ hy, g⟩
        · rcases List.mem_append.mp hy with g | g
          · exact h3 y g
          · rw [List.mem_singleton.mp g]
            exact fun z => q1 ▸ h3 q hq (q2.trans z)
      · have : (pre.all fun q => !(decide (q.2 = h) && !decide (q.1 = t))) = false := by
          rw [List.all_eq_false]
          exact ⟨q, hq, by simp [q2, q1, c]⟩
        rw [decide_eq_false c, this, Bool.and_false, Bool.false_and, Bool.false_and]
    | none =>
      show (decide ((if 0 < h then t else 0) = t) && coA (led ++ [(h, if 0 < h then t else 0)]) r) = _
      have a2 : (pre.all fun q => !(decide (q.2 = h) && !decide (q.1 = t))) = true := List.all_eq_true.mpr fun y hy => by
        by_cases z : y.2 = h
        · have := h1 y hy
          rw [z, e] at this
          cases this
        · simp [z]
      have a1 : decide ((if 0 < h then t else 0) = t) = !(decide (h = 0) && !decide (t = 0)) := by
        by_cases z : h = 0
        · subst z
          by_cases g : t = 0
          · simp [g]
          · have : ¬ (0 : Int) = t := fun x => g x.symm
            simp [g, this]
        · have : 0 < h := by have : (0 : Int) ≤ h := p0; omega
          simp [z, this]
      rw [a1, a2, Bool.and_true]
      cases g : !(decide (h = 0) && !decide (t = 0)) with
      | false => rfl
      | true =>
        rw [Bool.true_and, Bool.true_and]
        have et : (if 0 < h then t else 0) = t := by rw [g] at a1; exact of_decide_eq_true a1
        rw [et]
        refine coA_eq r _ (pre ++ [(t, h)]) pos' (fun y hy => ?_) (fun k z hk => ?_) (fun y hy => ?_)
        · rw [ldG_snoc]
          rcases List.mem_append.mp hy with m | m
          · rw [h1 y m]
          · rw [List.mem_singleton.mp m, e, if_pos rfl]
        · rw [ldG_snoc] at hk
          cases f : ldG led k with
          | some w =>
            rw [f] at hk
            cases hk
            obtain ⟨y, hy, m⟩ := h2 k z f
            exact ⟨y, List.mem_append_left _ hy, m⟩
          | none =>
            rw [f] at hk
            by_cases m : h = k
            · rw [if_pos m] at hk
              cases hk
              exact ⟨(t, h), List.mem_append_right _ (List.mem_singleton.mpr rfl), m, rfl⟩
            · rw [if_neg m] at hk
              cases hk
        · rcases List.mem_append.mp hy with m | m
          · exact h3 y m
          · rw [List.mem_singleton.mp m]
            intro z
            have z : h = 0 := z
            rw [z] at g
            simpa using g
theorem coA_nil {r : List (Int × Int)} (h : ∀ q ∈ r, 0 ≤ q.2) : coA [] r = coS [] r := coA_eq r [] [] h (fun _ h => by cases h) (fun _ _ h => by cases h) (fun _ h => by cases h)
end K6

/-! dict(zip(a, b)) of two tuples -/
namespace Dz
open PySem PySem.Spec PyProof.Rows L2 RZ
section
variable {prog : Program} {w : World} {A : Around} {E : Value → Shared → Prop} {s : Shared} {z TI TO T i1 i2 l1 l2 : Addr} {f : Bool} {oT : Obj} {n : Nat} {xs ys : Array Value}
/-- both walks at their turn n -/
structure At2 (h : Heap) (i1 i2 l1 l2 : Addr) (n : Nat) (xs ys : Array Value) : Prop where
  w1 : h.IsTupleIter i1 l1 n
  w2 : h.IsTupleIter i2 l2 n
  t1 : h.IsTuple l1 xs
  t2 : h.IsTuple l2 ys
theorem out_item {x y : Value} {Q : Option Value → Shared → Prop} (D : ZipApart z TI TO i1 i2 l1 l2) (zh : IsZipHeld s.heap z TI TO T f) (aT : s.heap.get? T = some oT) (ip : IsPair s.heap TI (.ref i1) (.ref i2)) (a2 : At2 s.heap i1 i2 l1 l2 n xs ys) (gx : xs[n]? = some x) (gy : ys[n]? = some y)
    (q : ∀ h', IsZipHeld h' z TI TO T true → h'.IsTupleIter i1 l1 (n + 1) → h'.IsTupleIter i2 l2 (n + 1) → IsPair h' s.heap.objs.size x y → (∀ c o, c ≠ z → c ≠ i1 → c ≠ i2 → s.heap.get? c = some o → h'.get? c = some o) → Q (some (.ref s.heap.objs.size)) { s with heap := h' }) :
    wpAny (model prog w) A (pyNext (.ref z)) Q E s := by
  have ty : s.TypeIs (.ref z) "zip" := ⟨_, zh, rfl⟩
  unfold pyNext
  refine wpAny_bind (wpAny_attempt (wpAny_callSpecial?_slot (name := Str.ofString "__next__") ty F.slot_zip_next (wpAny_call_entry F.slot_zip_next ty F.entry_zip_next ?_ (F.args_zip_next_1 _))))
  show wpAny _ _ (field (.ref z) 2 >>= _) _ _ _
  refine wpAny_bind (wpAny_field zh rfl (x := .bool false) rfl ?_)
  show wpAny _ _ (field (.ref z) 3 >>= _) _ _ _
  refine wpAny_bind (wpAny_field zh rfl (x := .ref TI) rfl (wpAny_bind (wpAny_seqItems ip rfl ?_)))
  show wpAny _ _ (Builtin.SmallTypes.ownedTupleIsFree (.ref z) >>= _) _ _ _
  refine wpAny_bind (wpAny_tupleHeld_zip zh aT fun g1 zg1 b1 => ?_)
  simp only [Bool.false_eq_true, if_false]
  refine wpAny_bind ?_
  rw [← Array.forIn_toList]
  simp only [List.forIn_cons, List.forIn_nil]
  refine wpAny_bind (wpAny_bind (wpAny_holding ?_))
  show wpAny _ _ (Builtin.SmallTypes.nextOf (.ref i1) >>= _) _ _ _
  refine wpAny_bind (nextOf_tuple_item (s := { s with heap := g1 }) (a2.w1.at fun o e => b1.extBut _ o D.i1z e) (a2.t1.at fun o e => b1.extBut _ o D.l1z e) gx fun g2 u1 b2 => wpAny_pure (wpAny_pure ?_))
  refine wpAny_bind (wpAny_bind (wpAny_holding ?_))
  show wpAny _ _ (Builtin.SmallTypes.nextOf (.ref i2) >>= _) _ _ _
  refine wpAny_bind (nextOf_tuple_item (s := { s with heap := g2 }) (a2.w2.at fun o e => b2.extBut _ o D.i12.symm (b1.extBut _ o D.i2z e)) (a2.t2.at fun o e => b2.extBut _ o D.l2i1 (b1.extBut _ o D.l2z e)) gy fun g3 u2 b3 => wpAny_pure (wpAny_pure (wpAny_pure ?_)))
  show wpAny _ _ (newTuple [x, y] >>= _) _ _ _
  refine wpAny_bind (wpAny_newTuple ?_)
  have ez : g3.objs.size = s.heap.objs.size := by rw [b3.1, b2.1, b1.1]
  have zg3 : IsZipHeld g3 z TI TO T true := b3.extBut _ _ D.i2z.symm (b2.extBut _ _ D.i1z.symm zg1)
  have kp : ∀ c o, c ≠ z → c ≠ i1 → c ≠ i2 → s.heap.get? c = some o → g3.get? c = some o := fun c o n1 n2 n3 e => b3.extBut _ _ n3 (b2.extBut _ _ n2 (b1.extBut _ _ n1 e))
  refine wpAny_pure ⟨_, rfl, wpAny_pure ?_⟩
  show Q (some (.ref g3.objs.size)) _
  have np : IsPair (g3.push { cls := .type "tuple", data := .seq #[x, y] }) g3.objs.size x y := Heap.get?_push_size _ rfl
  rw [ez] at np ⊢
  have pu : ∀ {c : Addr} {o : Obj}, g3.get? c = some o → (g3.push { cls := .type "tuple", data := .seq #[x, y] }).get? c = some o := fun e => Heap.get?_push_of_some _ e
  exact q _ (pu zg3) ((u1.at fun o e => b3.extBut _ o D.i12 e).at fun o e => pu e) (u2.at fun o e => pu e) np fun c o n1 n2 n3 e => pu (kp c o n1 n2 n3 e)
theorem out_end {Q : Option Value → Shared → Prop} (hh : A.handled = none) (D : ZipApart z TI TO i1 i2 l1 l2) (zh : IsZipHeld s.heap z TI TO T f) (aT : s.heap.get? T = some oT) (ip : IsPair s.heap TI (.ref i1) (.ref i2)) (a2 : At2 s.heap i1 i2 l1 l2 n xs ys) (ge : xs[n]? = none ∨ ys[n]? = none)
    (q : ∀ h', (∀ c o, c ≠ z → c ≠ i1 → c ≠ i2 → s.heap.get? c = some o → h'.get? c = some o) → Q none { s with heap := h' }) : wpAny (model prog w) A (pyNext (.ref z)) Q E s := by
  have ty : s.TypeIs (.ref z) "zip" := ⟨_, zh, rfl⟩
  have fin : ∀ (h' : Heap) (e : Addr), (∀ c o, c ≠ z → c ≠ i1 → c ≠ i2 → s.heap.get? c = some o → h'.get? c = some o) → (∃ o, h'.get? e = some o ∧ o.cls = .type "StopIteration") → wpAny (model prog w) A (do let b ← isInstance (.ref e) (.type "StopIteration"); if b then pure none else Sem.raise (.ref e)) Q E { s with heap := h' } := fun h' e k ⟨o, ho, hc⟩ => wpAny_bind (wpAny_isInstance (T := "StopIteration") (b := true) ⟨o, ho, hc⟩ isSubtype_stop (wpAny_pure (q h' k)))
  unfold pyNext
  refine wpAny_bind (wpAny_attempt (wpAny_callSpecial?_slot (name := Str.ofString "__next__") ty F.slot_zip_next (wpAny_call_entry F.slot_zip_next ty F.entry_zip_next ?_ (F.args_zip_next_1 _))))
  show wpAny _ _ (field (.ref z) 2 >>= _) _ _ _
  refine wpAny_bind (wpAny_field zh rfl (x := .bool false) rfl ?_)
  show wpAny _ _ (field (.ref z) 3 >>= _) _ _ _
  refine wpAny_bind (wpAny_field zh rfl (x := .ref TI) rfl (wpAny_bind (wpAny_seqItems ip rfl ?_)))
  show wpAny _ _ (Builtin.SmallTypes.ownedTupleIsFree (.ref z) >>= _) _ _ _
  refine wpAny_bind (wpAny_tupleHeld_zip zh aT fun g1 zg1 b1 => ?_)
  simp only [Bool.false_eq_true, if_false]
  refine wpAny_bind ?_
  rw [← Array.forIn_toList]
  simp only [List.forIn_cons, List.forIn_nil]
  refine wpAny_bind (wpAny_bind (wpAny_holding ?_))
  show wpAny _ _ (Builtin.SmallTypes.nextOf (.ref i1) >>= _) _ _ _
  cases gx : xs[n]? with
  | none => exact wpAny_bind (nextOf_tuple_end (s := { s with heap := g1 }) hh (a2.w1.at fun o e => b1.extBut _ o D.i1z e) (a2.t1.at fun o e => b1.extBut _ o D.l1z e) gx fun g2 e b2 he => fin g2 e (fun c o n1 n2 _ x => b2 _ _ n2 (b1.extBut _ _ n1 x)) he)
  | some x =>
    have gy : ys[n]? = none := ge.elim (fun h => by rw [gx] at h; cases h) id
    refine wpAny_bind (nextOf_tuple_item (s := { s with heap := g1 }) (a2.w1.at fun o e => b1.extBut _ o D.i1z e) (a2.t1.at fun o e => b1.extBut _ o D.l1z e) gx fun g2 u1 b2 => wpAny_pure (wpAny_pure ?_))
    refine wpAny_bind (wpAny_bind (wpAny_holding ?_))
    show wpAny _ _ (Builtin.SmallTypes.nextOf (.ref i2) >>= _) _ _ _
    exact wpAny_bind (nextOf_tuple_end (s := { s with heap := g2 }) hh (a2.w2.at fun o e => b2.extBut _ o D.i12.symm (b1.extBut _ o D.i2z e)) (a2.t2.at fun o e => b2.extBut _ o D.l2i1 (b1.extBut _ o D.l2z e)) gy fun g3 e b3 he => fin g3 e (fun c o n1 n2 n3 x => b3 _ _ n3 (b2.extBut _ _ n2 (b1.extBut _ _ n1 x))) he)
end
/-- a zip of two tuples as it is made -/
structure Fresh (h : Heap) (z TI TO i1 i2 l1 l2 : Addr) (xs ys : Array Value) : Prop where
  z0 : IsZip h z TI TO .none
  ip : IsPair h TI (.ref i1) (.ref i2)
  op : ∃ a b, IsPair h TO a b
  a2 : At2 h i1 i2 l1 l2 0 xs ys
theorem At2.up {h h' : Heap} {i1 i2 l1 l2 : Addr} {n : Nat} {xs ys : Array Value} (a : At2 h i1 i2 l1 l2 n xs ys) (k : ∀ c, c = i1 ∨ c = i2 ∨ c = l1 ∨ c = l2 → ∀ o, h.get? c = some o → h'.get? c = some o) : At2 h' i1 i2 l1 l2 n xs ys :=
  ⟨a.w1.at fun o => k i1 (.inl rfl) o, a.w2.at fun o => k i2 (.inr (.inl rfl)) o, a.t1.at fun o => k l1 (.inr (.inr (.inl rfl))) o, a.t2.at fun o => k l2 (.inr (.inr (.inr rfl))) o⟩
/-- the walk while the dict at d is filled: as made, or its last pair still out -/
def Mid (z TI TO i1 i2 l1 l2 d : Addr) (xs ys : Array Value) (n : Nat) (h : Heap) : Prop := IsPair h TI (.ref i1) (.ref i2) ∧ At2 h i1 i2 l1 l2 n xs ys ∧ ((IsZip h z TI TO .none ∧ ∃ a b, IsPair h TO a b) ∨ ∃ (T : Addr) (f : Bool) (oT : Obj), IsZipHeld h z TI TO T f ∧ h.get? T = some oT ∧ (T ≠ z ∧ T ≠ i1 ∧ T ≠ i2) ∧ T ≠ d)
section
variable {prog : Program} {w : World} {z TI TO i1 i2 l1 l2 d : Addr} {xs ys : Array Value}
theorem src {A : Around} (hh : A.handled = none) (D : ZipApart z TI TO i1 i2 l1 l2) (off : d ∉ [z, TI, TO, i1, i2, l1, l2]) (len : xs.size = ys.size) : PairSrc prog w A z d [z, TO, i1, i2] xs.size (fun i k v => xs[i]? = some k ∧ ys[i]? = some v) (Mid z TI TO i1 i2 l1 l2 d xs ys) := by
  simp only [List.mem_cons, List.not_mem_nil, or_false, not_or] at off
  obtain ⟨nz, nTI, nTO, n1, n2, m1, m2⟩ : d ≠ z ∧ d ≠ TI ∧ d ≠ TO ∧ d ≠ i1 ∧ d ≠ i2 ∧ d ≠ l1 ∧ d ≠ l2 := off
  refine ⟨by simp only [List.mem_cons, List.not_mem_nil, or_false, not_or]; exact ⟨nz, nTO, n1, n2⟩, ?_, ?_, ?_⟩
  · rintro i h h' ⟨ip, a2, st⟩ k
    refine ⟨k _ _ nTI.symm ip, a2.up ?_, st.imp (fun ⟨z0, a, b, op⟩ => ⟨k _ _ nz.symm z0, a, b, k _ _ nTO.symm op⟩) fun ⟨T, f, oT, zh, aT, r, rd⟩ => ⟨T, f, oT, k _ _ nz.symm zh, k _ _ rd aT, r, rd⟩⟩
    rintro c (rfl | rfl | rfl | rfl) o e
    · exact k _ _ n1.symm e
    · exact k _ _ n2.symm e
    · exact k _ _ m1.symm e
    · exact k _ _ m2.symm e
  · rintro i s Q E li ⟨ip, a2, st⟩ ld q
    have gx : xs[i]? = some xs[i] := Array.getElem?_eq_getElem li
    have gy : ys[i]? = some (ys[i]'(len ▸ li)) := Array.getElem?_eq_getElem (len ▸ li)
    have old : ∀ {c : Addr} {o : Obj}, s.heap.get? c = some o → s.heap.objs.size ≠ c := fun e => (Nat.ne_of_lt (Heap.lt_size e)).symm
    have o1 : s.heap.objs.size ≠ i1 := let ⟨_, e, _⟩ := a2.w1; old e
    have o2 : s.heap.objs.size ≠ i2 := let ⟨_, e, _⟩ := a2.w2; old e
    rcases st with ⟨z0, a, b, op⟩ | ⟨T, f, oT, zh, aT, r, rd⟩
    · refine pyNext_zipT_item D z0 ip op a2.w1 a2.w2 a2.t1 a2.t2 gx gy fun h' c1 c2 c3 c4 c5 _ k => ?_
      refine q s.heap.objs.size _ _ h' s.toks ⟨gx, gy⟩ (.inl ⟨_, c5, rfl, _, rfl⟩) ⟨k _ _ D.TIz D.TITO D.TIi1 D.TIi2 ip, ⟨c3, c4, a2.t1.at fun o e => k _ o D.l1z D.l1TO D.l1i1 D.l1i2 e, a2.t2.at fun o e => k _ o D.l2z D.l2TO D.l2i1 D.l2i2 e⟩, .inr ⟨s.heap.objs.size, false, _, c1, c5, ⟨old z0, o1, o2⟩, (Nat.ne_of_lt ld).symm⟩⟩ fun c o nc e => ?_
      simp only [List.mem_cons, List.not_mem_nil, or_false, not_or] at nc
      exact k c o nc.1 nc.2.1 nc.2.2.1 nc.2.2.2 e
    · refine out_item D zh aT ip a2 gx gy fun h' c1 c2 c3 c4 k => ?_
      refine q s.heap.objs.size _ _ h' s.toks ⟨gx, gy⟩ (.inl ⟨_, c4, rfl, _, rfl⟩) ⟨k _ _ D.TIz D.TIi1 D.TIi2 ip, ⟨c2, c3, a2.t1.at fun o e => k _ o D.l1z D.l1i1 D.l1i2 e, a2.t2.at fun o e => k _ o D.l2z D.l2i1 D.l2i2 e⟩, .inr ⟨T, true, oT, c1, k _ _ r.1 r.2.1 r.2.2 aT, r, rd⟩⟩ fun c o nc e => ?_
      simp only [List.mem_cons, List.not_mem_nil, or_false, not_or] at nc
      exact k c o nc.1 nc.2.2.1 nc.2.2.2 e
  · rintro s Q E ⟨ip, a2, st⟩ q
    have no : xs[xs.size]? = none ∨ ys[xs.size]? = none := .inl (Array.getElem?_eq_none (Nat.le_refl _))
    rcases st with ⟨z0, a, b, op⟩ | ⟨T, f, oT, zh, aT, r, rd⟩
    · refine pyNext_zipT_end hh D z0 ip op a2.w1 a2.w2 a2.t1 a2.t2 no fun h' k => q h' s.toks fun c o nc e => ?_
      simp only [List.mem_cons, List.not_mem_nil, or_false, not_or] at nc
      exact k c o nc.1 nc.2.1 nc.2.2.1 nc.2.2.2 e
    · refine out_end hh D zh aT ip a2 no fun h' k => q h' s.toks fun c o nc e => ?_
      simp only [List.mem_cons, List.not_mem_nil, or_false, not_or] at nc
      exact k c o nc.1 nc.2.2.1 nc.2.2.2 e
theorem arg (D : ZipApart z TI TO i1 i2 l1 l2) (len : xs.size = ys.size) : PairArg prog w "zip" z [z, TI, TO, i1, i2, l1, l2] [z, TO, i1, i2] xs.size (fun i k v => xs[i]? = some k ∧ ys[i]? = some v) (fun h => Fresh h z TI TO i1 i2 l1 l2 xs ys) where
  notDict := by decide
  type := fun _ f => ⟨_, f.z0, rfl⟩
  keep := fun h h' f k => ⟨k _ _ f.z0, k _ _ f.ip, let ⟨a, b, o⟩ := f.op; ⟨a, b, k _ _ o⟩, f.a2.up fun c _ o e => k c o e⟩
  there := fun h f b m => by
    simp only [List.mem_cons, List.not_mem_nil, or_false] at m
    obtain ⟨z0, ip, ⟨_, _, op⟩, ⟨⟨_, e1, _⟩, ⟨_, e2, _⟩, ⟨_, e3, _⟩, ⟨_, e4, _⟩⟩⟩ := f
    rcases m with e | e | e | e | e | e | e <;> subst e
    · exact ⟨_, z0⟩
    · exact ⟨_, ip⟩
    · exact ⟨_, op⟩
    · exact ⟨_, e1⟩
    · exact ⟨_, e2⟩
    · exact ⟨_, e3⟩
    · exact ⟨_, e4⟩
  sub := fun b m => by
    simp only [List.mem_cons, List.not_mem_nil, or_false] at m ⊢
    rcases m with e | e | e | e
    · exact .inl e
    · exact .inr (.inr (.inl e))
    · exact .inr (.inr (.inr (.inl e)))
    · exact .inr (.inr (.inr (.inr (.inl e))))
  noKeys := fun A s Q E hA f q => getAttrOr_miss_zip f.z0 rfl rfl rfl zip_no_keys (by decide +kernel) hA q
  iter := fun A s d Q E hA f _ off q => wpAny_pyIter_zip f.z0 (q z [z, TO, i1, i2] (Mid z TI TO i1 i2 l1 l2 d xs ys) s.heap s.toks (src hA D off len) ⟨f.ip, f.a2, .inl ⟨f.z0, f.op⟩⟩ (fun _ _ e => e) fun b m => .inl m)
end
/-- values by keys, as they stand on the heap -/
theorem kv_zip {P : Program} {w : World} : ∀ {ks : List Key} {ys : List V} {us vs : List Value}, Vals (ks.map kV) us → Vals ys vs → ks.length = ys.length →
    ∃ prs : List (Key × Value), KV (ks.zip ys) prs ∧ prs.length = ks.length ∧ ∀ (i : Nat) (u v : Value), us[i]? = some u → vs[i]? = some v → ∃ k, prs[i]? = some (k, v) ∧ (mixKind P w).is k u = true
  | [], ys, us, vs, h1, h2, _ => ⟨[], .nil, rfl, fun i u v e _ => by cases h1; simp at e⟩
  | k :: ks, [], us, vs, h1, h2, l => by simp at l
  | k :: ks, y :: ys, us, vs, h1, h2, l => by
    rw [List.map_cons] at h1
    cases h1 with
    | cons a1 t1 =>
    cases h2 with
    | cons a2 t2 =>
    obtain ⟨prs, r, pl, pf⟩ := kv_zip (P := P) (w := w) t1 t2 (by simpa using l)
    refine ⟨(k, _) :: prs, .cons ⟨rfl, a2⟩ r, by rw [List.length_cons, List.length_cons, pl], fun i u v e1 e2 => ?_⟩
    cases i with
    | zero =>
      rw [List.getElem?_cons_zero] at e1 e2
      cases e1
      cases e2
      exact ⟨k, rfl, kV_is a1⟩
    | succ i =>
      rw [List.getElem?_cons_succ] at e1 e2
      obtain ⟨k', e, h⟩ := pf i u v e1 e2
      exact ⟨k', by rw [List.getElem?_cons_succ]; exact e, h⟩
section
variable {X : Cx} {e e2 : Expr} {ta : TA} {p p2 pos pos2 : Pos}
def tDictZip (K : PySem.W.Frag) (ta : TA) : TE := fun σ H Q => ta σ H fun vs H1 => ∃ (a b : Addr) (ks : List Key) (ys : List V), vs = [.ref a, .ref b] ∧ SqT K H1 a (ks.map kV) ∧ SqT K H1 b ys ∧ ks.length = ys.length ∧ ∀ d, H1 d = none → Q (.ref d) (upd H1 d (.dK (mergeK [] (ks.zip ys))))
theorem pe_dictZip (hc : X.calm = true) (hg : Gl X "dict") (hm : X.mg "dict" = none) (hg2 : Gl X "zip") (hm2 : X.mg "zip" = none) (ha : PA X [e, e2] ta)
    (hs : starEach [e, e2] X.env = (false, eval e X.env) :: starEach [e2] X.env := by rfl) (hpl : (backTo pos2 (starEach [e2] X.env)).any (·.1) = false := by rfl) :
    PE X (.Call (.Name "dict" p) [.Call (.Name "zip" p2) [e, e2] [] pos2] [] pos) (tDictZip X.K ta) := by
  refine ⟨fun pins s σ H Q I h => ?_⟩
  refine wpAny_Call_Name_kw (ld_blt I hg hm (by rfl) ?_ (by decide) (by decide))
  refine PyProof.Rows.callWith_type1 ?_ (by rfl) (by rfl)
  refine Calls.spliced_cons ?_
  refine Call_ (ld_blt I hg2 hm2 PyProof.Rows.boot_zip (PyProof.Rows.callWith_type1 (thn (ha.run pos2 pins s σ H _ I h) fun us s1 ⟨vs, H1, I1, r1, a, b, ks, ys, ex, sa, sb, len, q⟩ => ?_) hs hpl))
  subst ex
  obtain ⟨u1, u2, eu, ra, rb⟩ := vals2 r1
  subst eu
  cases ra
  cases rb
  obtain ⟨its, rv, pa, lz⟩ := I1.tuple sa
  obtain ⟨jts, rw2, pb, _⟩ := I1.tuple sb
  have l1 := rv.length
  have l2 := rw2.length
  rw [List.length_map] at l1 lz
  obtain ⟨oa, ga, _⟩ := id pa
  obtain ⟨ob, gb, _⟩ := id pb
  refine call_zipT (show s1.heap.IsTuple a its.toArray from pa) (show s1.heap.IsTuple b jts.toArray from pb) fun h1 z0 ip op w1 w2 _ k1 => ?_
  refine Calls.spliced_nil ?_
  obtain ⟨prs, rel, pl, pf⟩ := kv_zip (P := X.prog) (w := X.w) rv rw2 len
  have ez : its.toArray.size = jts.toArray.size := by simp; omega
  have ap := PySem.W.ktu_apart s1.heap.objs.size a b (Heap.lt_size ga) (Heap.lt_size gb)
  have t1 : h1.IsTuple a its.toArray := Heap.IsTuple.at (show s1.heap.IsTuple a its.toArray from pa) fun o e => k1 _ o e
  have t2 : h1.IsTuple b jts.toArray := Heap.IsTuple.at (show s1.heap.IsTuple b jts.toArray from pb) fun o e => k1 _ o e
  refine call_dict_pairs (s := { s1 with heap := h1 }) (knd := mixKind X.prog X.w) (kvs := prs) (arg ap ez) (I.ok.hd hc) ⟨z0, ip, ⟨_, _, op⟩, ⟨w1, w2, t1, t2⟩⟩ ⟨by rw [pl]; simp; omega, fun i u v ⟨e1, e2⟩ => pf i u v (by simpa using e1) (by simpa using e2)⟩ (by simp; omega) fun h2 tk hd k2 => ?_
  have big : s1.heap.objs.size ≤ h1.objs.size := by
    refine Nat.le_of_not_lt fun z => ?_
    have := Heap.lt_size z0
    omega
  have k : ∀ c o, s1.heap.get? c = some o → h2.get? c = some o := fun c o e => by
    have lc := Heap.lt_size e
    refine k2 c o (fun m => ?_) (k1 c o e)
    simp only [List.mem_cons, List.not_mem_nil, or_false] at m
    rcases m with h | h | h | h <;> rw [h] at lc
    · exact absurd lc (Nat.not_lt.mpr (Nat.le_add_right _ _))
    · exact absurd lc (Nat.not_lt.mpr (Nat.le_add_right _ _))
    · exact absurd lc (Nat.lt_irrefl _)
    · exact absurd lc (Nat.not_lt.mpr (Nat.le_add_right _ _))
  have hm' : (h1.objs.size == sysModules) = false := beq_eq_false_iff_ne.mpr (Nat.ne_of_gt (Nat.lt_of_lt_of_le I1.big big))
  have ln : (mergeK [] (ks.zip ys)).length ≤ sizeLine := by
    refine Nat.le_trans (length_mergeK _ []) ?_
    rw [List.length_nil, Nat.zero_add, List.length_zip]
    omega
  exact ⟨.ref h1.objs.size, upd H1 h1.objs.size (.dK (mergeK [] (ks.zip ys))), I1.laid (t' := tk) k big (show ObjOk X.prog X.w _ _ _ (.dK (mergeK [] (ks.zip ys))) from ⟨ln, hm', merged [] prs, KV.merge rel .nil, hd⟩), rfl, q _ (I1.hok.fresh big)⟩
end
end Dz

/-! errors of classes of the program's own, over Exception through other own classes, whose __init__ keeps one thing: self.word = word -/
namespace Xw
open PySem PySem.W PySem.Calls PyProof.Rows PySem.HandSPX
abbrev exB : List Value := [.type "Exception", .type "BaseException", .type "object"]
def iA (p1 p2 : Pos) : Arguments := { posonlyargs := [], args := [{ arg := "self", annotation := none, pos := p1 }, { arg := "word", annotation := none, pos := p2 }], vararg := none, kwonlyargs := [], kw_defaults := [], kwarg := none, defaults := [] }
def iB (q1 q2 q3 q4 : Pos) : List Stmt := [.Assign [.Attribute (.Name "self" q1) "word" q2] (.Name "word" q3) q4]
def iS : Scope := { kind := .function, names := [(PySem.Str.ofString "self", .local), (PySem.Str.ofString "word", .local)], isGenerator := false, isCoroutine := false, more := [] }
/-- what the written part says of the class cn, at C, and of its __init__, at fI -/
structure ErrC (K : Frag) (mg : Str → Option Value) (cn : Str) (C fI : Addr) : Prop where
  gC : mg cn = some (.ref C)
  cls : ∃ nm q N bs bm sn sub ab col dd k0 k1 k2 k3 k5, K.lookup C = some (excClassObj nm q C N bs bm true sn sub ab col dd k0 k1 k2 k3 k5 "Exception.__new__") ∧ excTail exB bm = true
  sa : findIn K (.ref C) "__setattr__" = some (some (.builtin "object.__setattr__"))
  ga : findIn K (.ref C) "__getattribute__" = some (some (.builtin "BaseException.__getattribute__"))
  gg : findIn K (.ref C) "__getattr__" = some none
  noN : findIn K (.ref C) "word" = some none
  iC : findIn K (.ref C) "__init__" = some (some (.ref fI))
  tC : typeIn K (.ref fI) = some (.type "function")
  kC : keepIn K (.ref C) = true
  exC : subIn K (.ref C) (.type "BaseException") = some true
  tyC : typeIn K (.ref C) = some (.type "type")
  hdC : hasDictIn K C = true
  te : exmOne K (.ref C) (.ref C) = some true
  fn : ∃ (oc : Value) (od : Option Addr) (qn : Str) (doc pm : Value) (an : Option Addr) (cdv ct : Value) (osl : Array (Option Value)) (p1 p2 q1 q2 q3 q4 : Pos),
    K.lookup fI = some ⟨oc, od, .func (fnOf "__init__" qn (iA p1 p2) (iB q1 q2 q3 q4) iS .none .none doc pm an cdv ct), osl⟩ ∧ codeIn K cdv qn = true
theorem one_size (v : Value) : [v].length ≤ sizeLine := by
  rw [sizeLine_eq]
  exact (by decide : 1 ≤ 16777216)
theorem at_local {M : Model} {s : Shared} {name : Str} {scope : Scope} {L a : Addr} {cd : Value} {m : Str → Option Value} {x : Str} {pos : Pos} {v : Value} {Q : Value → Shared → Prop} {A : Around} {E : Value → Shared → Prop} (hn : s.heap.Ns L m) (hv : m x = some v) (h : Q v s)
    (hk : scope.kind = .function := by rfl) (hl : (envOfC name scope L a cd).kindOf x = some .local := by rfl) (hd : (x == ("__debug__" : Str)) = false := by decide) :
    wpAny M A (eval (.Name x pos) (envOfC name scope L a cd)) Q E s := wpAny_Name (wpAny_loadName_local hk hl hn hv h) hd
/-- what __init__ leaves of a fresh exception at x -/
structure Ended (h h' : Heap) (x C dx t1 : Addr) (v : Value) : Prop where
  keep : ∀ b o, b ≠ x → h.get? b = some o → h'.get? b = some o
  obj : h'.get? x = some { cls := .ref C, dict := some dx, data := .fields #[.ref t1, .none, .none, .none, .bool false, .none] }
  dbig : h.objs.size ≤ dx
  dne : dx ≠ x
  ns : h'.Ns1 dx (fun y => if y = "word" then some v else none)
structure Made (h h' : Heap) (e C d : Addr) (v : Value) : Prop where
  keep : ∀ b o, h.get? b = some o → h'.get? b = some o
  new : h.objs.size ≤ e
  obj : ∃ oe vs, h'.get? e = some oe ∧ oe.cls = .ref C ∧ oe.dict = some d ∧ oe.data = .fields vs ∧ vs[1]? = some .none
  dbig : h.objs.size ≤ d
  dne : d ≠ e
  ns : h'.Ns1 d (fun y => if y = "word" then some v else none)
section
open Builtin Builtin.ObjectAttr
variable {prog : Program} {w : World} {A : Around} {E : Value → Shared → Prop} {R : Result → Shared → Prop} {K : Frag} {mg : Str → Option Value} {cn : Str} {C fI : Addr}
/-- the first store to such an exception: it gets its dict -/
theorem first_store {hp : Heap} {g : Array GenState} {d : Drawn} {t : Nat} {os : OsState} {name : Str} {tk : Tok} {v : Value} {x : Addr} {fv : Array Value} {cd : ClassData}
    (X : K.In hp) (hx : hp.get? x = some { cls := .ref C, data := .fields fv }) (hcd : clsIn K C = some cd) (ho : excOver K C exB = true) (hh : cd.hasDict = true) (ha : findIn K (.ref C) name = some none)
    (hq : ∀ h' tk' dx, (∀ b o, b ≠ x → hp.get? b = some o → h'.get? b = some o) → hp.objs.size ≤ dx → dx ≠ x → h'.get? x = some { cls := .ref C, dict := some dx, data := .fields fv } →
      h'.Ns1 dx (fun y => if y = name then some v else none) → R (.ok (.ret .none)) ⟨h', g, d, tk', os⟩) :
    codeAny (model prog w) A (.call (.builtin "object.__setattr__") ⟨[.ref x, .str name tk, v], []⟩) R ⟨hp, g, d, t, os⟩ := by
  have I : InstAt hp x { cls := .ref C, data := .fields fv } C none := ⟨hx, rfl, rfl, trivial⟩
  have nx : x ≠ hp.objs.size := Nat.ne_of_lt (Heap.lt_size hx)
  refine osa_openX (r := none) F.store_Exception X I ho (by unfold takerIn; rw [ha]; rfl) fun b => ?_
  show wpAny _ _ (storeInOwnDict (.ref x) (.ref C) (.str name tk) name v b) _ _ _
  have hC : Looks (model prog w) hp (classData C) cd := looks_clsIn X hcd
  obtain ⟨_, _, _, _, _, hd, _, _, _, _, _⟩ := cd
  dsimp only at hh
  subst hh
  unfold storeInOwnDict ownDictForStores
  repeat (first | with_reducible refine wpAny_loadPart_at hx ?_ | with_reducible refine hC.at ?_ | with_reducible refine HandSPX.store_in_new ?_ ?_ | wp_step)
  · exact ⟨_, #[], _, (Heap.get?_update_ne _ _ _ _ nx.symm).trans (Heap.get?_push_at rfl rfl), rfl, fun e he => absurd he (by simp), fun _ => rfl⟩
  · intro h' tk' hn' hs
    have old : (hp.push { cls := .type "dict", data := .dict #[] }).get? x = some { cls := .ref C, data := .fields fv } := Heap.get?_push_of_some _ hx
    refine hq h' tk' hp.objs.size (fun b o hb ho => ?_) (Nat.le_refl _) nx.symm ?_ hn'
    · exact (hs.2 b (Nat.ne_of_lt (Heap.lt_size ho))).trans ((Heap.get?_update_ne _ _ _ _ hb).trans (Heap.get?_push_of_some _ ho))
    · exact (hs.2 x nx).trans (Heap.get?_update_self _ old rfl)
theorem err_init (T : ErrC K mg cn C fI) {s : Shared} {x t0 : Addr} {v : Value} (X : K.In s.heap) (hlim : s.heap.NoLimit) (hx : s.heap.get? x = some (excO C t0)) (hroom : A.depth < recursionLimit)
    (hq : ∀ h' tk dx, Ended s.heap h' x C dx t0 v → R (.ok (.ret .none)) { s with heap := h', toks := tk }) :
    codeAny (model prog w) A (.call (.ref fI) ⟨[.ref x, v], []⟩) R s := by
  obtain ⟨oc, od, qn, doc, pm, an, cdv, ct, osl, p1, p2, q1, q2, q3, q4, ho, hcd⟩ := T.fn
  obtain ⟨nm, q, N, bs, bm, sn, sub, ab, col, dd, k0, k1, k2, k3, k5, hC, hbm⟩ := T.cls
  have hcl : clsIn K C = some { name := nm, bases := bs, mro := .ref C :: bm, ns := N, qualname := q, hasDict := true, slotNames := sn, subclasses := sub, abstract := ab, collection := col, hasDel := false } := by unfold clsIn; rw [hC] <;> rfl
  have over : excOver K C exB = true := by
    unfold excOver
    rw [hcl]
    show ((C == C) && excTail exB bm) = true
    rw [hbm, beq_self_eq_true]
    rfl
  refine Att.call_fn (binds := [("self", .ref x), ("word", v)]) X hlim ho hcd hroom (BindsTo.of_eq (by first | rfl | with_unfolding_all rfl)) (by first | rfl | decide | with_unfolding_all rfl) (fun s₁ IC => ?_) rfl rfl rfl
  obtain ⟨h₁, tk₁, rfl⟩ := IC.toInCall.same
  have k : ∀ b o, s.heap.get? b = some o → h₁.get? b = some o := IC.toInCall.keep
  have hn := IC.toInCall.ns
  have X₁ : K.In h₁ := X.keeps k
  have hx₁ := k _ _ hx
  show wpAny _ _ (execs _ _) _ _ _
  refine wpAny_execs_cons (plainObj_wpAny_Assign_Attribute ?_)
  refine at_local (v := v) hn (by first | rfl | with_unfolding_all rfl | kernel_rfl) (at_local (v := .ref x) hn (by first | rfl | with_unfolding_all rfl | kernel_rfl) ?_)
  refine set_plain X₁ (ox := excO C t0) (od := none) ⟨hx₁, rfl, rfl, trivial⟩ T.sa ?_
  refine first_store X₁ hx₁ hcl over rfl T.noN (fun h₃ tk₃ dx k₃ dn dne hx₃ hn₃ => ?_)
  show wpAny _ _ (execs _ _) _ _ _
  have z : s.heap.objs.size < h₁.objs.size := hn.lt
  exact wpAny_execs_nil (hq h₃ tk₃ dx ⟨fun b o hb e => k₃ b o hb (k b o e), hx₃, Nat.le_of_lt (Nat.lt_of_lt_of_le z dn), dne, hn₃⟩)
theorem err_made (T : ErrC K mg cn C fI) {s : Shared} {v : Value} (X : K.In s.heap) (hlim : s.heap.NoLimit) (hroom : A.depth + 1 < recursionLimit)
    (hq : ∀ h' tk e d, Made s.heap h' e C d v → R (.ok (.ret (.ref e))) { s with heap := h', toks := tk }) :
    codeAny (model prog w) A (.call (.ref C) ⟨[v], []⟩) R s := by
  obtain ⟨nm, q, N, bs, bm, sn, sub, ab, col, dd, k0, k1, k2, k3, k5, hC, hbm⟩ := T.cls
  obtain ⟨hp, g, dr, tk, os⟩ := s
  have k : ∀ b o, hp.get? b = some o → ((hp.push (kdv_tup [v])).push (excO C hp.objs.size)).get? b = some o := fun b o e => Heap.get?_push_of_some _ (Heap.get?_push_of_some _ e)
  have hget : ((hp.push (kdv_tup [v])).push (excO C hp.objs.size)).get? (hp.objs.size + 1) = some (excO C hp.objs.size) := by heap_get
  refine call_own F.excBase_Exception (fun X => excTail_contains X bm hbm) (X _ _ hC) (looks_findIn X T.iC) (fun self => bind_fn X self T.tC) (one_size v) ?_
  refine err_init (s := ⟨(hp.push (kdv_tup [v])).push (excO C hp.objs.size), g, dr, tk, os⟩) T (X.keeps k) (hlim.keeps k) hget ?_ fun h' tk' dx ⟨k', hx, dn, dne, hns⟩ => ?_
  · show A.depth + 1 < recursionLimit
    exact hroom
  · have old : ∀ b o, hp.get? b = some o → h'.get? b = some o := fun b o e => k' b o (Nat.ne_of_lt (Nat.lt_succ_of_lt (Heap.lt_size e))) (k b o e)
    have z : hp.objs.size + 1 + 1 ≤ dx := by
      first
        | (simpa only [Heap.size_push] using dn)
        | exact dn
        | (have q := dn; rw [Heap.size_push, Heap.size_push] at q; exact q)
    exact ⟨rfl, hq h' tk' (hp.objs.size + 1) dx ⟨old, Nat.le_succ _, ⟨_, _, hx, rfl, rfl, rfl, rfl⟩, Nat.le_trans (Nat.le_trans (Nat.le_succ _) (Nat.le_succ _)) z, dne, hns⟩⟩
end
end Xw
namespace Xw
open PySem PySem.Spec PyProof.Rows L2
theorem relO_at {v : V} {v' : Value} (r : RelV v v') (f : Str) : RelO (List.lookup f [(("word" : Str), v)]) (if f = "word" then some v' else none) := by
  by_cases hw : f = "word"
  · subst hw
    rw [if_pos rfl]
    have q : List.lookup ("word" : Str) [(("word" : Str), v)] = some v := by simp [List.lookup]
    rw [q]
    exact r
  · rw [if_neg hw]
    have qw : (f == ("word" : Str)) = false := by simpa using hw
    have q2 : List.lookup f [(("word" : Str), v)] = none := by simp [List.lookup, qw]
    rw [q2]
    trivial
section
variable {X : Cx} {cn : Str} {C fI : Addr}
/-- cn(e) -/
def tMk (C : Addr) (ta : TA) : L2.St → Hp → XK → Prop := fun σ H Q => ta σ H fun vs H1 => ∃ v, vs = [v] ∧ ∀ d, H1 d = none → Q (.ref C) (some d) (upd H1 d (.xd [(("word" : Str), v)]))
theorem pmk_at {a : Expr} {ta : TA} {p pos : Pos} {k : Nat} (T : ErrC X.K X.mg cn C fI) (hr : Room k X.A) (ha : PA X [a] ta) (hg : Gl X cn) (hdb : (cn == ("__debug__" : Str)) = false := by decide)
    (he : starEach (a :: []) X.env = (false, eval a X.env) :: starEach [] X.env := by rfl) (hpl : (backTo pos (starEach [] X.env)).any (·.1) = false := by rfl) :
    PMk X (.Call (.Name cn p) [a] [] pos) (tMk C ta) := by
  intro pins s σ H Q I h
  refine wpAny_Call_Name_kw (ld_glob I hg T.gC ?_ hdb)
  refine PySem.W.callWith_K (h₀ := X.base) I.ok.mod.kin T.kC (thn (ha.run pos pins s σ H _ I h) fun us s1 hh => ?_) he hpl
  obtain ⟨vs, H1, I1, r1, v, ev, q1⟩ := hh
  subst ev
  refine ⟨I1.kIn, ?_⟩
  cases r1 with
  | cons rv rn =>
    rename_i v' us'
    cases rn
    show wpAny _ _ (call (.ref C) [v']) _ _ _
    have hlim := I1.nolimit
    obtain ⟨hp, g, dr, tk, os⟩ := s1
    refine wpAny_call (err_made T I1.kIn hlim (by have := hr.dp; omega) fun h' tk' e d M => ?_)
    show MkP X pins σ Q (.ref e) ⟨h', g, dr, tk', os⟩
    obtain ⟨oe, fv, hoe, hc, hd, hdat, h1⟩ := M.obj
    have hns := M.ns
    obtain ⟨G', g1, g2⟩ := restrict h' fun b => decide (b ≠ e)
    have gk : ∀ b, b ≠ e → G'.get? b = h'.get? b := fun b hb => g1 b (decide_eq_true hb)
    have ge : G'.get? e = none := g2 e (by simp)
    have old : ∀ b o, hp.get? b = some o → G'.get? b = some o := fun b o q => (gk b (Nat.ne_of_lt (Nat.lt_of_lt_of_le (Heap.lt_size q) M.new))).trans (M.keep b o q)
    have ob : ObjOk X.prog X.w (upd H1 d (.xd [(("word" : Str), v)])) G' d (.xd [(("word" : Str), v)]) :=
      ⟨_, hns.at (fun o q => (gk d M.dne).trans q), fun f => relO_at rv f⟩
    have J : Inv X pins σ (upd H1 d (.xd [(("word" : Str), v)])) ⟨G', g, dr, tk', os⟩ := I1.laid (t' := tk') old M.dbig ob
    refine ⟨e, oe, fv, ⟨G', g, dr, tk', os⟩, _, .ref C, some d, rfl, J, fun b o q => ?_, ge, hoe, ⟨hc, hd⟩, hdat, h1, ?_, rfl, I1.bare, raises_own T.exC T.tyC, q1 d (I1.hok.fresh M.dbig)⟩
    · by_cases hb : b = e
      · have q' : G'.get? b = some o := q
        rw [hb, ge] at q'; cases q'
      · exact (gk b hb).symm.trans q
    · rw [upd_ne (Ne.symm M.dne)]
      exact I1.hok.fresh M.new
/-- raise cn(e) -/
def tRaise (C : Addr) (W : WX) (ta : TA) : TS := fun _ σ H => tMk C ta σ H fun cls d H' => W cls d σ H'
theorem ps_raiseAt {a : Expr} {ta : TA} {W : WX} {p pos pos2 : Pos} {k : Nat} (hc : X.calm = true) (T : ErrC X.K X.mg cn C fI) (hr : Room k X.A) (tk : Takes X W) (ha : PA X [a] ta) (hg : Gl X cn) (hdb : (cn == ("__debug__" : Str)) = false := by decide)
    (he : starEach (a :: []) X.env = (false, eval a X.env) :: starEach [] X.env := by rfl) (hpl : (backTo pos (starEach [] X.env)).any (·.1) = false := by rfl) :
    PS X (.Raise (some (.Call (.Name cn p) [a] [] pos)) none pos2) (tRaise C W ta) := ps_raise hc tk (pmk_at T hr ha hg hdb he hpl)
theorem ErrC.xf (T : ErrC X.K X.mg cn C fI) : XfC X.K C := ⟨T.ga, T.gg, T.exC, T.hdC⟩
end
end Xw

namespace K6
open PySem PySem.Spec PyProof.Rows L2 Hb St Sq Ow En Zp RZ Rd Xb Da Lo
theorem pi_seqK {X : Cx} {K : PySem.W.Frag} {tg l : Expr} {tl : TE} (hK : X.K = K) (hl : PE X l tl) : PI X tg l (iSeq K tl) := by
  cases hK
  exact pi_seq hl
theorem at_intR {ns : List Int} {i : Nat} {y : V} (ey : (ns.map V.int)[i]? = some y) : ∃ x, ns[i]? = some x ∧ y = .int x := by
  rw [List.getElem?_map] at ey
  cases c : ns[i]? with
  | none => rw [c] at ey; cases ey
  | some x => rw [c] at ey; exact ⟨x, rfl, (Option.some.inj ey).symm⟩
/-- a lot of tones; a tale of them -/
def LotN (H : Hp) (v : V) (l : List Int) : Prop := ∃ b, v = .ref b ∧ H b = some (.tup (l.map V.int))
theorem LotN.on {H H' : Hp} {v : V} {l : List Int} (h : LotN H v l) (k : TupK H H') : LotN H' v l := let ⟨b, e, t⟩ := h; ⟨b, e, k _ _ t⟩
def TalN (H : Hp) (v : V) (t : List (List Int)) : Prop := ∃ a its, v = .ref a ∧ H a = some (.tup its) ∧ All2 (LotN H) its t
theorem TalN.on {H H' : Hp} {v : V} {t : List (List Int)} (h : TalN H v t) (k : TupK H H') : TalN H' v t := let ⟨a, its, e, ea, al⟩ := h; ⟨a, its, e, k _ _ ea, al.imp fun _ _ r => r.on k⟩
/-! ### integers, numbers, by their data -/
def intD : PyData → Bool
  | .int _ => true
  | _ => false
def numD : PyData → Bool
  | .int i => decide (0 ≤ i)
  | _ => false
def bolD : PyData → Bool
  | .bool _ => true
  | _ => false
theorem kit_int {K : PySem.W.Frag} {H : Hp} {v : V} {d : PyData} (h : Dp K H v d) : PySem.W.kitOne K (tyD d) (.type "int") = some (intD d || bolD d) := by
  cases h with
  | non => exact kit_ty (a := "NoneType") (b := "int") (r := false) (by decide +kernel)
  | bl b => exact kit_ty (a := "bool") (b := "int") (r := true) (by decide +kernel)
  | int i => exact kit_ty (a := "int") (b := "int") (r := true) (by decide +kernel)
  | str x => exact kit_ty (a := "str") (b := "int") (r := false) (by decide +kernel)
  | lst _ _ => exact kit_ty (a := "list") (b := "int") (r := false) (by decide +kernel)
  | tup _ _ => exact kit_ty (a := "tuple") (b := "int") (r := false) (by decide +kernel)
theorem kit_bool {K : PySem.W.Frag} {H : Hp} {v : V} {d : PyData} (h : Dp K H v d) : PySem.W.kitOne K (tyD d) (.type "bool") = some (bolD d) := by
  cases h with
  | non => exact kit_ty (a := "NoneType") (b := "bool") (r := false) (by decide +kernel)
  | bl b => exact kit_ty (a := "bool") (b := "bool") (r := true) (by decide +kernel)
  | int i => exact kit_ty (a := "int") (b := "bool") (r := false) (by decide +kernel)
  | str x => exact kit_ty (a := "str") (b := "bool") (r := false) (by decide +kernel)
  | lst _ _ => exact kit_ty (a := "list") (b := "bool") (r := false) (by decide +kernel)
  | tup _ _ => exact kit_ty (a := "tuple") (b := "bool") (r := false) (by decide +kernel)
section
variable {P : Program} {w : World} {K : PySem.W.Frag} {mg : Str → Option Value} {base : Heap}
abbrev s_is_integer : Stmt := top 7
theorem sc_is_integer : FnScope ["value"] ["value"] (defScope s_is_integer) := ⟨rfl, rfl, rfl, by decide +kernel, rfl, by decide +kernel, by decide +kernel⟩
def spIsInt (K : PySem.W.Frag) : Sp := fun vs H Q _ => ∃ (v : V) (d : PyData), vs = [v] ∧ Dp K H v d ∧ Q (.bl (intD d)) H
theorem ok_isint {f : Addr} {fd : FuncData} (F : Fun K "is_integer" "is_integer" s_is_integer f fd) (n_bool : mg "bool" = none) (n_int : mg "int" = none) (n_isinstance : mg "isinstance" = none) : FnOk P w K mg base CX0 1 f fd ["value"] (spIsInt K) := by
  refine F.ok sc_is_integer (fun vs H Q E h => ?_) (fun cdv A outer s H vs Q E hr h => ?_)
  · obtain ⟨_, _, rfl, _⟩ := h
    rfl
  · obtain ⟨v, d, rfl, hv, q⟩ := h
    refine ⟨_, (pss_one (ps_ret (pe_and (pe_callB call_isi (by rfl) n_isinstance (by decide +kernel) (pa_cons (pv 0) (pa_cons (pe_bltn (v := .ty "int") (by rfl) n_int (by decide +kernel) rfl) pa_nil))) (pe_one (pe_not (pe_callB call_isi (by rfl) n_isinstance (by decide +kernel) (pa_cons (pv 0) (pa_cons (pe_bltn (v := .ty "bool") (by rfl) n_bool (by decide +kernel) rfl) pa_nil)))))))), ?_⟩
    have ty := ty_dp hv
    have ki := kit_int hv
    have kb := kit_bool hv
    have e : intD d = ((intD d || bolD d) && !bolD d) := by cases d <;> rfl
    rw [e] at q
    refine ⟨_, rfl, _, .ty "int", _, _, _, rfl, .ty "int", ty, ki, _, rfl, ?_⟩
    cases c : (intD d || bolD d) with
    | false => rw [c] at q; exact iteF q
    | true =>
      rw [c] at q
      exact iteT ⟨_, rfl, _, .ty "bool", _, _, _, rfl, .ty "bool", ty, kb, _, rfl, q⟩
abbrev s_is_number : Stmt := top 8
theorem sc_is_number : FnScope ["value"] ["value"] (defScope s_is_number) := ⟨rfl, rfl, rfl, by decide +kernel, rfl, by decide +kernel, by decide +kernel⟩
def spIsNum (K : PySem.W.Frag) : Sp := fun vs H Q _ => ∃ (v : V) (d : PyData), vs = [v] ∧ Dp K H v d ∧ Q (.bl (numD d)) H
theorem ok_isnum {f : Addr} {fd : FuncData} (F : Fun K "is_number" "is_number" s_is_number f fd) (C_is_integer : Cl P w K mg base "is_integer" ["value"] [] 1 (spIsInt K)) : FnOk P w K mg base CX0 2 f fd ["value"] (spIsNum K) := by
  refine F.ok sc_is_number (fun vs H Q E h => ?_) (fun cdv A outer s H vs Q E hr h => ?_)
  · obtain ⟨_, _, rfl, _⟩ := h
    rfl
  · obtain ⟨v, d, rfl, hv, q⟩ := h
    refine ⟨_, (pss_one (ps_ret (pe_and (pe_use C_is_integer (hr.mono (by decide)) rfl (pa_cons (pv 0) pa_nil)) (pe_one (pe_cmpR op_ge (pv 0) pe_int (nomark _)))))), ?_⟩
    refine ⟨_, rfl, v, d, rfl, hv, _, rfl, ?_⟩
    cases hv with
    | int i => exact iteT ⟨_, rfl, _, _, rfl, rfl, q⟩
    | _ => exact iteF q
/-! ### is_name_lot, need_bells, need_naming -/
def nlD : PyData → Bool
  | .tuple ds => lotD (.tuple ds) || decide (ds.length = 0)
  | _ => false
theorem lot_tup {d : PyData} (h : isTupD d = false) : lotD d = false ∧ nlD d = false := by
  cases d with
  | tuple _ => cases h
  | _ => exact ⟨rfl, rfl⟩
abbrev s_is_name_lot : Stmt := top 17
theorem sc_is_name_lot : FnScope ["value"] ["value"] (defScope s_is_name_lot) := ⟨rfl, rfl, rfl, by decide +kernel, rfl, by decide +kernel, by decide +kernel⟩
def spNmLot (K : PySem.W.Frag) : Sp := fun vs H Q _ => ∃ (v : V) (d : PyData), vs = [v] ∧ Dp K H v d ∧ Sm1 d ∧ ∀ H', Same H H' → Q (.bl (nlD d)) H'
theorem ok_nmlot {f : Addr} {fd : FuncData} (F : Fun K "is_name_lot" "is_name_lot" s_is_name_lot f fd) (C_is_lot : Cl P w K mg base "is_lot" ["value"] [] 2 (spIsLot K)) (n_isinstance : mg "isinstance" = none) (n_len : mg "len" = none) (n_tuple : mg "tuple" = none) : FnOk P w K mg base CX0 3 f fd ["value"] (spNmLot K) := by
  refine F.ok sc_is_name_lot (fun vs H Q E h => ?_) (fun cdv A outer s H vs Q E hr h => ?_)
  · obtain ⟨_, _, rfl, _⟩ := h
    rfl
  · obtain ⟨v, d, rfl, dv, sm, q⟩ := h
    refine ⟨_, (pss_one (ps_ret (pe_or (pe_use C_is_lot (hr.mono (by decide)) rfl (pa_cons (pv 0) pa_nil)) (pe_one (pe_and (pe_callB call_isi (by rfl) n_isinstance (by decide +kernel) (pa_cons (pv 0) (pa_cons (pe_bltn (v := .ty "tuple") (by rfl) n_tuple (by decide +kernel) rfl) pa_nil))) (pe_one (pe_cmpR op_eq (pe_callB call_len_seq (by rfl) n_len PySem.boot_len (pa_cons (pv 0) pa_nil)) pe_int (nomark _)))))))), ?_⟩
    refine ⟨_, rfl, _, _, rfl, dv, sm, fun H1 s1 => ⟨_, rfl, ?_⟩⟩
    have dv1 := dp_same s1 dv
    have ty := ty_dp dv1
    have kt := kit_tup dv1
    have q := q _ s1
    cases c : isTupD d with
    | false =>
      obtain ⟨c1, c2⟩ := lot_tup c
      rw [c2] at q
      rw [c] at kt
      rw [c1]
      exact iteF ⟨_, rfl, _, .ty "tuple", _, _, _, rfl, .ty "tuple", ty, kt, _, rfl, iteF q⟩
    | true =>
      rw [c] at kt
      cases dv1 with
      | @tup a xs ds ht ha =>
        have ln := (dpa_all ha).len
        have q : Q (.bl (lotD (.tuple ds) || decide (ds.length = 0))) H1 := q
        cases c1 : lotD (.tuple ds) with
        | true => rw [c1] at q; exact iteT q
        | false =>
          rw [c1] at q
          refine iteF ⟨_, rfl, _, .ty "tuple", _, _, _, rfl, .ty "tuple", ty, kt, _, rfl, iteT ⟨_, rfl, a, _, rfl, .inr ht, rfl, ?_⟩⟩
          rw [ln]
          have e : decide (V.int (ds.length : Nat) = V.int 0) = decide (ds.length = 0) := decide_eq_decide.mpr ⟨fun z => by injection z with z; omega, fun z => by rw [z]; rfl⟩
          show Q (.bl (decide (V.int (ds.length : Nat) = V.int 0))) H1
          rw [e]
          exact q
      | _ => cases c
def errW (x : Str) : HO := .xd [(("word" : Str), .str x)]
abbrev s_need_bells : Stmt := top 23
theorem sc_need_bells : FnScope ["bells"] ["bells"] (defScope s_need_bells) := ⟨rfl, rfl, rfl, by decide +kernel, rfl, by decide +kernel, by decide +kernel⟩
def spBellsD (K : PySem.W.Frag) (D : Addr) : Sp := fun vs H Q E => ∃ (v : V) (d : PyData), vs = [v] ∧ Dp K H v d ∧ Sm1 d ∧ (nlD d = true → ∀ H', Same H H' → Q .non H') ∧ (nlD d = false → ∀ dd H', Same H H' → H' dd = some (errW (Str.ofString "bells")) → E (.ref D) (some dd) H')
theorem ok_bellsok {f D fD : Addr} {fd : FuncData} (F : Fun K "need_bells" "need_bells" s_need_bells f fd) (TS : Xw.ErrC K mg "InvalidSize" D fD) (C_is_name_lot : Cl P w K mg base "is_name_lot" ["value"] [] 3 (spNmLot K)) : FnOk P w K mg base (L2.CX P w) 4 f fd ["bells"] (spBellsD K D) := by
  refine F.okX sc_need_bells (fun vs H Q E h => ?_) (fun cdv A outer s H vs Q E hr h => ?_)
  · obtain ⟨_, _, rfl, _⟩ := h
    rfl
  · obtain ⟨v, d, rfl, dv, sm, q, qe⟩ := h
    refine ⟨_, (pss_one (ps_if (pt_not (pt_val (pe_use C_is_name_lot (hr.mono (by decide)) rfl (pa_cons (pv 0) pa_nil)))) (pss_one (Xw.ps_raiseAt rfl TS hr (takes_of rfl rfl rfl rfl) (pa_cons pe_str pa_nil) rfl)) pss_nil)), ?_⟩
    refine ⟨_, rfl, v, d, rfl, dv, sm, fun H1 s1 => ⟨_, rfl, ?_⟩⟩
    cases c : nlD d with
    | true => exact iteF (q c _ s1)
    | false => exact iteT ⟨_, rfl, fun dd hn => qe c dd _ (s1.trans (same_new hn _)) upd_same⟩
abbrev s_need_naming : Stmt := top 24
theorem sc_need_naming : FnScope ["bells", "naming", "tone"] ["bells", "naming"] (defScope s_need_naming) := ⟨rfl, rfl, rfl, by decide +kernel, rfl, by decide +kernel, by decide +kernel⟩
def namD (n : Nat) : PyData → Bool
  | .tuple ds => decide (ds.length = n) && ds.all numD
  | _ => false
def SmN : PyData → Prop
  | .tuple ds => ds.length ≤ 1000
  | _ => True
def spNamD (K : PySem.W.Frag) (D : Addr) : Sp := fun vs H Q E => ∃ (b : Addr) (v : V) (n : Nat) (xs : List V) (d : PyData), vs = [.ref b, v] ∧ H b = some (.tup xs) ∧ xs.length = n ∧ Dp K H v d ∧ SmN d ∧ (namD n d = true → ∀ H', Same H H' → Q .non H') ∧ (namD n d = false → ∀ dd H', Same H H' → H' dd = some (errW (Str.ofString "naming")) → E (.ref D) (some dd) H')
theorem ok_naming {f D fD : Addr} {fd : FuncData} (F : Fun K "need_naming" "need_naming" s_need_naming f fd) (TS : Xw.ErrC K mg "InvalidSize" D fD) (C_is_number : Cl P w K mg base "is_number" ["value"] [] 2 (spIsNum K)) (n_all : mg "all" = none) (n_isinstance : mg "isinstance" = none) (n_len : mg "len" = none) (n_tuple : mg "tuple" = none) : FnOk P w K mg base (L2.CX P w) 3 f fd ["bells", "naming"] (spNamD K D) := by
  refine F.okX sc_need_naming (fun vs H Q E h => ?_) (fun cdv A outer s H vs Q E hr h => ?_)
  · obtain ⟨_, _, _, _, _, rfl, _⟩ := h
    rfl
  · obtain ⟨b, v, n, xs0, d, rfl, eb, en, dv, sm, q, qe⟩ := h
    refine ⟨_, (pss_one (ps_if (PW.pt (pw_or (pt_not (pt_val (pe_callB call_isi (by rfl) n_isinstance (by decide +kernel) (pa_cons (pv 1) (pa_cons (pe_bltn (v := .ty "tuple") (by rfl) n_tuple (by decide +kernel) rfl) pa_nil))))) (pw_or (pt_cmpR op_ne (pe_callB call_len_seq (by rfl) n_len PySem.boot_len (pa_cons (pv 1) pa_nil)) (pe_callB call_len_seq (by rfl) n_len PySem.boot_len (pa_cons (pv 0) pa_nil)) (nomark _)) (pw_or1 (pt_not (pt_val (pe_callB (cr_all rfl) (by rfl) n_all (by decide +kernel) (pa_cons (pe_lc (own := [("tone", 2)]) (g := gName 2) rfl sc_need_naming.nd (pi_seq (pv 1)) (blkOk_by (N := ["bells", "naming", "tone"]) (sc := defScope s_need_naming) (by decide +kernel)) (fun _ _ _ _ _ => pg_name (i := 2) sc_need_naming.nd rfl (Or.inl rfl)) (fun _ _ _ _ _ => pts_nil) (fun _ _ _ _ _ => pe_use C_is_number (hr.mono (by decide)) rfl (pa_cons (pv 2) pa_nil))) pa_nil)))))))) (pss_one (Xw.ps_raiseAt rfl TS hr (takes_of rfl rfl rfl rfl) (pa_cons pe_str pa_nil) rfl)) pss_nil)), ?_⟩
    have ty := ty_dp dv
    have kt := kit_tup dv
    have bad : namD n d = false → ∀ H1, Same H H1 → ∀ dd, H1 dd = none → E (.ref D) (some dd) (upd H1 dd (errW (Str.ofString "naming"))) := fun c H1 s1 dd hn => qe c dd _ (s1.trans (same_new hn _)) upd_same
    cases dv with
    | @tup a xs ds ht ha =>
      have al := dpa_all ha
      have ln := al.len
      have sm : ds.length ≤ 1000 := sm
      refine ⟨_, rfl, _, .ty "tuple", _, _, _, rfl, .ty "tuple", ty, kt, _, rfl, iteF ?_⟩
      refine ⟨_, rfl, a, _, rfl, .inr ht, _, rfl, b, _, rfl, .inr (SqT.of eb), rfl, _, rfl, ?_⟩
      rw [en, ln]
      by_cases c : ds.length = n
      · rw [decide_eq_true (by rw [c])]
        show ite _ _ _
        refine iteF ⟨_, rfl, a, _, rfl, .inr ht, fun J S W0 z0 D0 kD => ?_⟩
        refine lc_mf (ds := ds) W0 (fun _ => true) (fun _ y d => y = .bl (numD d)) z0 kD ln (fun i y d H' ey ed s m => ?_) (fun H1 ys s1 e1 al1 => ?_)
        · refine ⟨rfl, _, rfl, y, d, rfl, dp_same s (at2 al ey ed), ?_⟩
          exact mf_yes m kD (fun _ _ _ _ _ h => h) ed (by omega) (Same.refl _) rfl rfl
        · rw [Rd.filter_all] at al1
          have ey := bl_map al1
          refine ⟨D0, _, rfl, SqL.of (by rw [← ey]; exact e1), ?_⟩
          rw [all_map]
          refine ⟨_, rfl, ?_⟩
          cases c2 : ds.all numD with
          | true => exact iteF (q (by show (decide (ds.length = n) && ds.all numD) = true; rw [c2, decide_eq_true c]; rfl) _ s1)
          | false => exact iteT ⟨_, rfl, bad (by show (decide (ds.length = n) && ds.all numD) = false; rw [c2, Bool.and_false]) _ s1⟩
      · rw [decide_eq_false fun z => c (by injection z with z; exact Int.ofNat_inj.mp z)]
        show ite _ _ _
        exact iteT ⟨_, rfl, bad (by show (decide (ds.length = n) && ds.all numD) = false; rw [decide_eq_false c, Bool.false_and]) _ (Same.refl _)⟩
    | _ =>
      exact ⟨_, rfl, _, .ty "tuple", _, _, _, rfl, .ty "tuple", ty, kt, _, rfl, iteT ⟨_, rfl, bad rfl _ (Same.refl _)⟩⟩
/-! ### tones_in -/
abbrev s_tones_in : Stmt := top 28
theorem sc_tones_in : FnScope ["lots", "bells", "naming", "tones", "heard", "lot", "name"] ["lots", "bells", "naming"] (defScope s_tones_in) := ⟨rfl, rfl, rfl, by decide +kernel, rfl, by decide +kernel, by decide +kernel⟩
def spTones (K : PySem.W.Frag) : Sp := fun vs H Q _ => ∃ (v : V) (b n : Addr) (t : Tale) (l : Lot) (ns : List Int), vs = [v, .ref b, .ref n] ∧ TalH H v t ∧ TlOk t ∧ (∀ m ∈ t, m.length < 64) ∧ H b = some (.tup (l.map V.str)) ∧ H n = some (.tup (ns.map V.int)) ∧ l.length = ns.length ∧ l.Nodup ∧ ∀ p H', Same H H' → TalN H' (.ref p) (tonT (tone l ns) t) → Q (.ref p) H'
theorem ok_tones {f : Addr} {fd : FuncData} (F : Fun K "tones_in" "tones_in" s_tones_in f fd)  (C_as_lot : Cl P w K mg base "as_lot" ["values"] [] 1 (spLot K)) (n_dict : mg "dict" = none) (n_tuple : mg "tuple" = none) (n_zip : mg "zip" = none) : FnOk P w K mg base CX0 2 f fd ["lots", "bells", "naming"] (spTones K) := by
  refine F.ok sc_tones_in (fun vs H Q E h => ?_) (fun cdv A outer s H vs Q E hr h => ?_)
  · obtain ⟨_, _, _, _, _, _, rfl, _⟩ := h
    rfl
  · obtain ⟨v, b, n, t, l, ns, rfl, ht, ok, sh, eb, en, ll, nd, q⟩ := h
    refine ⟨_, (pss_cons (ps_set (i := 3) sc_tones_in.nd rfl (Or.inr rfl) (Dz.pe_dictZip rfl (by rfl) n_dict (by rfl) n_zip (pa_cons (pv 1) (pa_cons (pv 2) pa_nil))))
    (Evl.pss_cut (ps_setLc (i := 4) (own := [("lot", 5)]) (g := gName 5) (by rfl) sc_tones_in.nd rfl rfl (sw_true rfl rfl rfl (by decide +kernel)) (pi_seq (pv 0)) (blkOk_by (N := ["lots", "bells", "naming", "tones", "heard", "lot", "name"]) (sc := defScope s_tones_in) (by decide +kernel)) (fun _ _ _ _ _ => pg_name (i := 5) sc_tones_in.nd rfl (Or.inl rfl)) (fun _ _ _ _ _ => pts_nil) (fun _ _ _ _ _ => pe_use C_as_lot (hr.mono (by decide)) rfl (pa_cons (pe_lc (own := [("name", 6)]) (g := gName 6) rfl sc_tones_in.nd (pi_seqK (K := K) rfl (pv 5)) (blkOk_by (N := ["lots", "bells", "naming", "tones", "heard", "lot", "name"]) (sc := { kind := .function, names := [((".0" : Str), .local), (("lot" : Str), .local), (("as_lot" : Str), .globalImplicit), (("tones" : Str), .cell)], isGenerator := false, isCoroutine := false }) (by decide +kernel)) (fun _ _ _ _ _ => pg_name (i := 6) sc_tones_in.nd rfl (Or.inl rfl)) (fun _ _ _ _ _ => pts_one (pt_cmpR op_gt (pe_dget2 (hu_of hr) (pv 3) (pv 6) pe_int ⟨rfl, rfl, rfl, rfl⟩) pe_int (nomark _))) (fun _ _ _ _ _ => pe_dget2 (hu_of hr) (pv 3) (pv 6) pe_int ⟨rfl, rfl, rfl, rfl⟩)) pa_nil)))
    (pss_one (ps_ret (pe_callTy call_tuple_of (by rfl) n_tuple (by decide +kernel) (pa_cons (pe_lc (own := [("lot", 5)]) (g := gName 5) rfl sc_tones_in.nd (pi_seq (pv 4)) (blkOk_by (N := ["lots", "bells", "naming", "tones", "heard", "lot", "name"]) (sc := defScope s_tones_in) (by decide +kernel)) (fun _ _ _ _ _ => pg_name (i := 5) sc_tones_in.nd rfl (Or.inl rfl)) (fun _ _ _ _ _ => pts_one (pt_truthK K rfl (pv 5) (fun _ => rfl))) (fun _ _ _ _ _ => pv 5)) pa_nil)))))), ?_⟩
    obtain ⟨a, its, rfl, ea, al⟩ := id ht
    have l1 := ok.len
    refine ⟨_, rfl, _, rfl, b, n, l.map Sum.inr, ns.map V.int, rfl, ?_, SqT.of en, by rw [List.length_map, List.length_map]; exact ll, fun d kd => ?_⟩
    · rw [List.map_map]; exact SqT.of eb
    have s1 := same_new kd (.dK (mergeK [] ((l.map (Sum.inr : Str → Key)).zip (ns.map V.int))))
    have ed : upd H d (.dK (mergeK [] ((l.map (Sum.inr : Str → Key)).zip (ns.map V.int)))) d = some (.dK ((l.map (Sum.inr : Str → Key)).zip (ns.map V.int))) := by
      rw [upd_same, merge_new]
      · rfl
      · rw [List.nil_append, List.map_fst_zip (by rw [List.length_map, List.length_map]; omega)]
        exact List.Pairwise.map _ (fun x y (h : x ≠ y) e => h (by injection e)) nd
    generalize upd H d (.dK (mergeK [] ((l.map (Sum.inr : Str → Key)).zip (ns.map V.int)))) = H1 at s1 ed ⊢
    have ea1 := s1 _ _ ea
    have isd : ∀ {H' : Hp}, Same H1 H' → IsD H' d := fun s => .inl ⟨_, .inl (s _ _ ed)⟩
    refine ⟨fun σ H' => ∃ (D : Addr) (ys : List V) (o5 o6 : Option V), σ = [some (.ref a), some (.ref b), some (.ref n), some (.ref d), some (.ref D), o5, o6] ∧ Same H1 H' ∧ H' D = some (.lst ys) ∧ All2 (LotN H') ys (t.map (tonL (tone l ns))), ?_, ?_⟩
    · refine ⟨_, rfl, a, its, rfl, SqX.tup ea1, fun J S W0 z0 D kD => ?_⟩
      refine lc_mf (ds := t) W0 (fun _ => true) (fun H y m => LotN H y (tonL (tone l ns) m)) z0 kD al.len (fun i y m H2 ey em s2 mf => ?_) (fun H2 ys s2 e2 al2 => ?_)
      · obtain ⟨m', em', mb, rfl, emb⟩ := al.get ey
        obtain rfl : m' = m := Option.some.inj (em'.symm.trans em)
        have lm := sh m' (at_mem em)
        refine ⟨rfl, _, rfl, mb, _, rfl, SqX.tup (s2 _ _ (s1 _ _ emb)), fun J2 S2 W2 z2 D2 kD2 => ?_⟩
        refine lc_mf (ds := m') W2 (fun x => decide (0 < tone l ns x)) (fun _ y x => y = .int (tone l ns x)) z2 kD2 (by rw [List.length_map]) (fun j y x H3 ey ex s3 mf3 => ?_) (fun H3 zs s3 e3 al3 => ?_)
        · obtain ⟨x', ex', rfl⟩ := str_at ey
          obtain rfl : x' = x := Option.some.inj (ex'.symm.trans ex)
          refine ⟨rfl, _, rfl, d, rfl, isd (s2.trans s3), _, rfl, _, DGet.k (k := Sum.inr x') ((s2.trans s3) _ _ ed), ?_⟩
          rw [tone_val ll]
          refine ⟨_, _, rfl, rfl, _, rfl, iteD (fun c => ?_) fun c => ?_⟩
          · refine ⟨_, rfl, d, rfl, isd (s2.trans s3), _, rfl, _, DGet.k (k := Sum.inr x') ((s2.trans s3) _ _ ed), ?_⟩
            rw [tone_val ll]
            exact mf_yes mf3 kD2 (fun _ _ _ _ _ h => h) ex (by omega) (Same.refl _) (decide_eq_true c) rfl
          · exact mf_no mf3 (fun _ _ _ _ _ h => h) ex (Same.refl _) (decide_eq_false c)
        · have ez := al3.map_eq (f := fun x => V.int (tone l ns x)) fun _ _ h => h
          rw [show ((m'.filter fun x => decide (0 < tone l ns x)).map fun x => V.int (tone l ns x)) = ((m'.filter fun x => decide (0 < tone l ns x)).map (tone l ns)).map V.int by rw [List.map_map]; rfl] at ez
          rw [ez] at e3
          refine ⟨D2, rfl, .inr ⟨_, SqX.lst e3, by rw [List.length_map]; have := List.length_filter_le (fun x => decide (0 < tone l ns x)) m'; omega, fun p H4 s4 e4 => ?_⟩⟩
          exact mf_yes mf kD (fun _ _ _ _ f h => h.on (.fix f)) em (by omega) (s3.trans s4) rfl ⟨p, rfl, e4⟩
      · rw [Rd.filter_all] at al2
        exact ⟨D, ys, _, _, rfl, s2, e2, al2.of_mapR⟩
    rintro σ H2 ⟨D, ys, o5, o6, rfl, s2, e2, al2⟩
    refine ⟨_, rfl, D, ys, rfl, SqX.lst e2, fun J S W0 z0 D2 kD2 => ?_⟩
    refine lc_mf (ds := t.map (tonL (tone l ns))) W0 (fun l => !decide (l = [])) (fun H y l => LotN H y l) z0 kD2 al2.len (fun i y m H' ey em s3 mf => ?_) (fun H3 zs s3 e3 al3 => ?_)
    · obtain ⟨m', em', mb, rfl, emb⟩ := al2.get ey
      obtain rfl : m' = m := Option.some.inj (em'.symm.trans em)
      refine ⟨rfl, _, rfl, !(m'.map V.int).isEmpty, .inr (.inl ⟨_, SqT.of (s3 _ _ emb), rfl⟩), ?_⟩
      have lt : (t.map (tonL (tone l ns))).length ≤ 100 := by rw [List.length_map]; exact l1
      cases m' with
      | nil => exact mf_no mf (fun _ _ _ _ f h => h.on (.fix f)) em (Same.refl _) rfl
      | cons x r => exact ⟨_, rfl, mf_yes mf kD2 (fun _ _ _ _ f h => h.on (.fix f)) em (by omega) (Same.refl _) rfl ⟨mb, rfl, s3 _ _ emb⟩⟩
    · refine ⟨D2, zs, rfl, .inl ⟨SqL.of e3, fun p hp => ?_⟩⟩
      have s4 := same_new hp (.tup zs)
      exact q p _ (((s1.trans s2).trans s3).trans s4) ⟨p, zs, rfl, upd_same, al3.imp fun _ _ r => r.on (.same s4)⟩
end
end K6

/-! itertools.combinations(xs, 2), at the library's level. -/
namespace Cb
open PySem PySem.Spec PySem.Builtin.Itertools
open Sem (wp)
abbrev cT : String := "itertools.combinations"
theorem mro_c : mroOf (.type "itertools.combinations") = pure [.type "itertools.combinations", .type "object"] := by rw [mroOf_type]; kernel_rfl
theorem look_new : typeLookup (.type "itertools.combinations") "__new__" = pure (some (.builtin "itertools.combinations.__new__")) := by rw [typeLookup_type, builtinLookup_eq_fast]; kernel_rfl
theorem slot_init : Slot "itertools.combinations" "__init__" "object.__init__" :=
  .of (owner := "object") (n := "__init__") (by rw [typeLookup_type, builtinLookup_eq_fast]; kernel_rfl) (by decide +kernel) (by decide +kernel) (by decide +kernel)
    (by first | exact .inl (by decide +kernel) | exact .inr (by decide +kernel)) (by rw [isSubtype_type]; kernel_rfl)
theorem sub_c : isSubtype (.type "itertools.combinations") (.type "itertools.combinations") = pure true := by rw [isSubtype_type]; kernel_rfl
theorem called_c : TypeCalled "itertools.combinations" "itertools.combinations.__new__" "object.__init__" :=
  ⟨by decide +kernel, by decide +kernel, ⟨_, _, mro_c⟩, madeBy_type mro_c look_new (by decide +kernel), by decide +kernel, sub_c, slot_init⟩
theorem typeCall_2 (a b : Value) : checkTypeCall "itertools.combinations" ⟨[a, b], []⟩ = pure () := by kernel_rfl
theorem newCall_2 (a b : Value) : checkBuiltinCall "itertools.combinations.__new__" ⟨[.type "itertools.combinations", a, b], []⟩ = pure () := by kernel_rfl
theorem entry_new : entryFor table "itertools.combinations.__new__" = some Builtin.«itertools.combinations.__new__» := entryFor_of_tree (by kernel_rfl)
theorem slot_iter : Slot "itertools.combinations" "__iter__" "itertools.combinations.__iter__" :=
  .of (owner := "itertools.combinations") (n := "__iter__") (by rw [typeLookup_type, builtinLookup_eq_fast]; kernel_rfl) (by decide +kernel) (by decide +kernel) (by decide +kernel)
    (by first | exact .inl (by decide +kernel) | exact .inr (by decide +kernel)) sub_c
theorem slot_next : Slot "itertools.combinations" "__next__" "itertools.combinations.__next__" :=
  .of (owner := "itertools.combinations") (n := "__next__") (by rw [typeLookup_type, builtinLookup_eq_fast]; kernel_rfl) (by decide +kernel) (by decide +kernel) (by decide +kernel)
    (by first | exact .inl (by decide +kernel) | exact .inr (by decide +kernel)) sub_c
theorem entry_iter : entryFor table "itertools.combinations.__iter__" = some Builtin.«dict_keyiterator.__iter__» :=
  entryFor_alias (id' := "dict_keyiterator.__iter__") (by kernel_rfl) (by first | rfl | decide +kernel | (unfold String.splitOn; simp +decide [String.splitOnAux])) (by decide +kernel) (by kernel_rfl)
theorem entry_next : entryFor table "itertools.combinations.__next__" = some Builtin.«itertools.combinations.__next__» := entryFor_of_tree (by kernel_rfl)
theorem owner_c : Manifest.owners.lookup (String.ofList ['s', 'n', 'o', 'i', 't', 'a', 'n', 'i', 'b', 'm', 'o', 'c', '.', 's', 'l', 'o', 'o', 't', 'r', 'e', 't', 'i'].reverse) = some Manifest.sig_itertools_combinations := by kernel_rfl
theorem args_iter (a : Value) : argsOk "itertools.combinations.__iter__" ⟨[a], []⟩ := by
  unfold argsOk; rw [signature?_of (id := "itertools.combinations.__iter__") (n := ['_', '_', 'r', 'e', 't', 'i', '_', '_']) (o := ['s', 'n', 'o', 'i', 't', 'a', 'n', 'i', 'b', 'm', 'o', 'c', '.', 's', 'l', 'o', 'o', 't', 'r', 'e', 't', 'i']) (by kernel_rfl) owner_c]; kernel_rfl
theorem args_next (a : Value) : argsOk "itertools.combinations.__next__" ⟨[a], []⟩ := by
  unfold argsOk; rw [signature?_of (id := "itertools.combinations.__next__") (n := ['_', '_', 't', 'x', 'e', 'n', '_', '_']) (o := ['s', 'n', 'o', 'i', 't', 'a', 'n', 'i', 'b', 'm', 'o', 'c', '.', 's', 'l', 'o', 'o', 't', 'r', 'e', 't', 'i']) (by kernel_rfl) owner_c]; kernel_rfl
theorem noDict_c : typeHasDict (.type "itertools.combinations") = false := by decide +kernel
/-- a combinations object of pairs -/
abbrev IsCb (h : Heap) (it p : Addr) (k : Int) (old : Value) (i j : Nat) : Prop := h.get? it = some { cls := .type "itertools.combinations", dict := none, data := .fields #[.ref p, rawInt k, old, rawInt i, rawInt j], slots := #[] }
theorem meets_new (l : Addr) (o : Obj) (items : Array Value) (n : Nat) (t : Tok) (hc : o.cls = .type "list") (hd : o.data = .seq items n) (hsz : items.size ≤ 1000) :
    Meets (Builtin.«itertools.combinations.__new__» ⟨[.type "itertools.combinations", .ref l, .int 2 t], []⟩)
      (fun _ R s => s.heap.get? l = some o ∧ ∀ h' : Heap, (∀ b o', s.heap.get? b = some o' → h'.get? b = some o') →
        R (.ok (.ret (.ref (h'.push { cls := .type "tuple", data := .seq items }).objs.size))) { s with heap := (h'.push { cls := .type "tuple", data := .seq items }).push { cls := .type "itertools.combinations", data := .fields #[.ref h'.objs.size, rawInt (if 2 > items.size then 2 else 0), .none, rawInt 0, rawInt 1] } }) :=
  .of_wp fun prog w A R s h => by
    obtain ⟨hp, g, dd, tk, os⟩ := s; obtain ⟨ht, h⟩ := h
    have hsub := sub_c
    have hdc := noDict_c
    have hz : items.size ≤ sizeLine := Nat.le_trans hsz (by decide)
    repeat (first
      | (refine wpAny_collect_seq (hsz := hz) l (.inl rfl) ht hc hd ?_)
      | (with_reducible refine wpAny_bind ?_; refine wpAny_collect_seq (hsz := hz) l (.inl rfl) ht hc hd ?_)
      | wp_step
      | (rw [show ("itertools." ++ "combinations" : String) = "itertools.combinations" from by decide])
      | simp only [List.head?_cons, Option.some_or, List.getElem?_cons_succ, List.getElem?_cons_zero, List.length_cons, List.length_nil, List.forIn_nil]
      | (refine wpAny_ite_false (by decide) ?_))
    intro h' hk
    refine wpAny_ite_false (by decide) ?_
    refine wpAny_ite_false (by decide) ?_
    refine wpAny_bind (wpAny_newTuple (wpAny_pure ?_) (by rw [Array.length_toList]; exact hz))
    show wpAny _ _ (itNewRecord (.type "itertools.combinations") [.ref h'.objs.size, rawInt (if 2 > items.toList.length then 2 else 0), .none, rawInt 0, rawInt 1] >>= fun v => ret v) _ _ _
    refine wpAny_bind ?_
    unfold itNewRecord
    rw [hdc]
    refine wpAny_newObj_type (T := "itertools.combinations") (data := .fields #[.ref h'.objs.size, rawInt (if 2 > items.toList.length then 2 else 0), .none, rawInt 0, rawInt 1]) ?_ (by size_fits)
    refine wpAny_pure ⟨_, rfl, ?_⟩
    have e : items.toList.toArray = items := by simp
    rw [e, Array.length_toList]
    exact h h' hk
section
variable {prog : Program} {w : World} {A : Around} {E : Value → Shared → Prop} {s : Shared}
/-- combinations(xs, 2) -/
theorem call_c {l : Addr} {items : Array Value} {t : Tok} {Q : Value → Shared → Prop} (hl : s.heap.IsList l items) (hsz : items.size ≤ 1000)
    (h : ∀ h1 : Heap, (∀ b o, s.heap.get? b = some o → h1.get? b = some o) → ∀ (h' : Heap), IsCb h' (h1.objs.size + 1) h1.objs.size (if 2 > items.size then 2 else 0) .none 0 1 → h'.get? h1.objs.size = some { cls := .type "tuple", data := .seq items } → (∀ b o, h1.get? b = some o → h'.get? b = some o) → Q (.ref (h1.objs.size + 1)) { s with heap := h' }) :
    wpAny (model prog w) A (call (.type "itertools.combinations") [.ref l, .int 2 t]) Q E s := by
  obtain ⟨o, ho, hc, n, hd⟩ := hl
  refine callType_new called_c (by decide +kernel) (typeCall_2 _ _) (newCall_2 _ _) (fun obj => F.args_object_init_3 obj _ _) entry_new (meets_new l o items n t hc hd hsz) ⟨ho, fun h' hk => ?_⟩
  have sz : (h'.push { cls := .type "tuple", data := .seq items }).objs.size = h'.objs.size + 1 := Heap.size_push ..
  have e1 : ((h'.push { cls := .type "tuple", data := .seq items }).push { cls := .type "itertools.combinations", data := .fields #[.ref h'.objs.size, rawInt (if 2 > items.size then 2 else 0), .none, rawInt 0, rawInt 1] }).get? (h'.objs.size + 1) = some { cls := .type "itertools.combinations", data := .fields #[.ref h'.objs.size, rawInt (if 2 > items.size then 2 else 0), .none, rawInt 0, rawInt 1] } := by
    rw [← sz]; exact Heap.get?_push_size _ rfl
  have e2 : ((h'.push { cls := .type "tuple", data := .seq items }).push { cls := .type "itertools.combinations", data := .fields #[.ref h'.objs.size, rawInt (if 2 > items.size then 2 else 0), .none, rawInt 0, rawInt 1] }).get? h'.objs.size = some { cls := .type "tuple", data := .seq items } := Heap.get?_push_of_some _ (Heap.get?_push_size _ rfl)
  show _ ∧ _
  rw [sz]
  exact ⟨⟨_, e1, rfl⟩, h h' hk _ e1 e2 fun b o q => Heap.get?_push_of_some _ (Heap.get?_push_of_some _ q)⟩
theorem iter_c {it p : Addr} {k : Int} {old : Value} {i j : Nat} {Q : Value → Shared → Prop} (hit : IsCb s.heap it p k old i j) (h : Q (.ref it) s) : wpAny (model prog w) A (pyIter (.ref it)) Q E s := by
  have hT : s.TypeIs (.ref it) "itertools.combinations" := ⟨_, hit, rfl⟩
  refine wpAny_pyIter_slot hT slot_iter (wpAny_call_entry slot_iter hT entry_iter ?_ (args_iter _))
  show wpAny _ _ (ret (.ref it)) _ _ s
  exact wpAny_pure ⟨_, rfl, "itertools.combinations", _, hT, slot_next.lookup, h⟩
end
end Cb

namespace Cb
open PySem PySem.Spec PySem.Builtin.Itertools
open Sem (wp)
section
variable {prog : Program} {w : World} {A : Around} {E : Value → Shared → Prop} {s : Shared}
def nx (n : Nat) (p : Nat × Nat) : Option (Nat × Nat) := if p.2 + 1 < n then some (p.1, p.2 + 1) else if p.1 + 2 < n then some (p.1 + 1, p.1 + 2) else none
def nc (n : Nat) (ind : List Nat) : Option (List Nat) :=
  let r := ind.length
  match (List.range r).reverse.find? fun i => ind.getD i 0 != i + n - r with
  | none => none
  | some i => some (ind.take i ++ (List.range (r - i)).map (ind.getD i 0 + 1 + ·))
theorem nc_two {n i j : Nat} (hij : i < j) (hj : j < n) : nc n [i, j] = (nx n (i, j)).map fun p => [p.1, p.2] := by
  unfold nc nx
  show (match List.find? (fun k => [i, j].getD k 0 != k + n - 2) [1, 0] with | none => none | some i_1 => some (List.take i_1 [i, j] ++ List.map (fun x => [i, j].getD i_1 0 + 1 + x) (List.range (2 - i_1)))) = _
  by_cases c : j + 1 < n
  · have e : (j != 1 + n - 2) = true := bne_iff_ne.mpr (by omega)
    rw [show List.find? (fun k => [i, j].getD k 0 != k + n - 2) [1, 0] = some 1 from List.find?_cons_of_pos e]
    rw [if_pos c]; rfl
  · have e : ¬ (j != 1 + n - 2) = true := by rw [bne_iff_ne]; omega
    rw [show List.find? (fun k => [i, j].getD k 0 != k + n - 2) [1, 0] = List.find? (fun k => [i, j].getD k 0 != k + n - 2) [0] from List.find?_cons_of_neg e]
    rw [if_neg c]
    by_cases d : i + 2 < n
    · have e : (i != 0 + n - 2) = true := bne_iff_ne.mpr (by omega)
      rw [show List.find? (fun k => [i, j].getD k 0 != k + n - 2) [0] = some 0 from List.find?_cons_of_pos e]
      rw [if_pos d]; rfl
    · have e : ¬ (i != 0 + n - 2) = true := by rw [bne_iff_ne]; omega
      rw [show List.find? (fun k => [i, j].getD k 0 != k + n - 2) [0] = none from List.find?_cons_of_neg e]
      rw [if_neg d]; rfl
theorem next_item {it p : Addr} {old : Value} {items : Array Value} {k : Int} {i j i' j' : Nat} {Q : Option Value → Shared → Prop} (hit : IsCb s.heap it p k old i j) (hp : s.heap.get? p = some { cls := .type "tuple", data := .seq items }) (ne : p ≠ it)
    (hk : (k = 0 ∧ i' = i ∧ j' = j) ∨ (k = 1 ∧ i < j ∧ j < items.size ∧ nx items.size (i, j) = some (i', j')))
    (hQ : ∀ h', IsCb h' it p 1 (.ref s.heap.objs.size) i' j' → h'.get? s.heap.objs.size = some { cls := .type "tuple", data := .seq #[items.getD i' .none, items.getD j' .none] } → (∀ b o, b ≠ it → s.heap.get? b = some o → h'.get? b = some o) → Q (some (.ref s.heap.objs.size)) { s with heap := h' }) :
    wpAny (model prog w) A (pyNext (.ref it)) Q E s := by
  have hT : s.TypeIs (.ref it) "itertools.combinations" := ⟨_, hit, rfl⟩
  unfold pyNext
  refine wpAny_bind (wpAny_attempt (wpAny_callSpecial?_slot (name := Str.ofString "__next__") hT slot_next (wpAny_call_entry slot_next hT entry_next ?_ (args_next _))))
  show wpAny _ _ (field (.ref it) 0 >>= _) _ _ s
  refine wpAny_bind (wpAny_field hit rfl (x := .ref p) rfl ?_)
  show wpAny _ _ (itNumbersFrom (.ref it) 3 >>= _) _ _ s
  refine wpAny_bind ?_
  unfold itNumbersFrom
  refine wpAny_bind (wpAny_load hit (wpAny_pure ?_))
  show wpAny _ _ ((field (.ref it) 1 >>= _) >>= _) _ _ s
  refine wpAny_bind (wpAny_bind (wpAny_field hit rfl (x := rawInt k) rfl (wpAny_pure ?_)))
  have lt : it < s.heap.objs.size := Heap.lt_size hit
  have fin : ∀ h1 : Heap, IsCb h1 it p 1 old i' j' → (∀ b o, b ≠ it → s.heap.get? b = some o → h1.get? b = some o) → h1.objs.size = s.heap.objs.size → ∀ E' : Value → Shared → Prop,
      wpAny (model prog w) A.in1 (((itPoolItems (.ref p)) >>= fun items => newTuple ([i', j'].map fun i => items.getD i .none)) >>= fun result => field (.ref it) 2 >>= fun before => setField (.ref it) 2 result >>= fun _ => letGo [before] [result] >>= fun _ => ret result)
        (fun fin s' => ∃ v, fin = Fin.done (Flow.ret v) ∧ wpAny (model prog w) A (pure (some v)) Q E s') E' { s with heap := h1 } := fun h1 e1 kk sz E' => by
    have hp1 : h1.get? p = some { cls := .type "tuple", data := .seq items } := kk p _ ne hp
    refine wpAny_bind (wpAny_bind ?_)
    unfold itPoolItems
    refine wpAny_bind (wpAny_seqItems hp1 rfl (wpAny_pure ?_))
    refine wpAny_newTuple ?_
    show wpAny _ _ _ _ _ { s with heap := h1.push { cls := .type "tuple", data := .seq #[items.getD i' .none, items.getD j' .none] } }
    have e2 : IsCb (h1.push { cls := .type "tuple", data := .seq #[items.getD i' .none, items.getD j' .none] }) it p 1 old i' j' := Heap.get?_push_of_some _ e1
    have e4 : (h1.push { cls := .type "tuple", data := .seq #[items.getD i' .none, items.getD j' .none] }).get? h1.objs.size = some { cls := .type "tuple", data := .seq #[items.getD i' .none, items.getD j' .none] } := Heap.get?_push_size _ rfl
    refine wpAny_bind (wpAny_field e2 rfl (x := old) rfl ?_)
    refine wpAny_bind (wpAny_setField_rec e2 (by simp) fun h3 e3 sb3 => ?_)
    refine wpAny_bind (wpAny_letGo (wpAny_pure ⟨_, rfl, wpAny_pure ?_⟩))
    show Q (some (.ref h1.objs.size)) { s with heap := h3 }
    replace e3 : IsCb h3 it p 1 (.ref h1.objs.size) i' j' := e3
    rw [sz] at e3 e4 ⊢
    exact hQ h3 e3 ((sb3.2 _ (Nat.ne_of_gt lt)).trans e4) fun b o n q => (sb3.2 b n).trans (Heap.get?_push_of_some _ (kk b o n q))
  rcases hk with ⟨rfl, rfl, rfl⟩ | ⟨rfl, hij, hj, hn⟩
  · show wpAny _ _ (setField (.ref it) 1 (rawInt 1) >>= _) _ _ s
    refine wpAny_bind (wpAny_setField_rec hit (by simp) fun h1 e1 sb1 => ?_)
    replace e1 : IsCb h1 it p 1 old i' j' := e1
    exact fin h1 e1 (fun b o n q => (sb1.2 b n).trans q) sb1.1 _
  · show wpAny _ _ ((itPoolItems (.ref p)) >>= _) _ _ s
    refine wpAny_bind ?_
    unfold itPoolItems
    refine wpAny_bind (wpAny_seqItems hp rfl (wpAny_pure ?_))
    have en : nc items.size [i, j] = some [i', j'] := by
      rw [nc_two hij hj, hn]
      rfl
    show wpAny _ _ (match nc items.size [((i : Nat) : Int).toNat, ((j : Nat) : Int).toNat] with
      | some next => itSetNumbersFrom (.ref it) 3 next >>= fun _ => (((itPoolItems (.ref p)) >>= fun items => newTuple (next.map fun i => items.getD i .none)) >>= fun result => field (.ref it) 2 >>= fun before => setField (.ref it) 2 result >>= fun _ => letGo [before] [result] >>= fun _ => ret result)
      | none => setField (.ref it) 1 (rawInt 2) >>= fun _ => itStop) _ _ s
    rw [Int.toNat_natCast, Int.toNat_natCast, en]
    show wpAny _ _ (itSetNumbersFrom (.ref it) 3 [i', j'] >>= _) _ _ s
    refine wpAny_bind ?_
    unfold itSetNumbersFrom
    refine wpAny_updateFields hit rfl ?_ (by show 5 ≤ _; decide)
    have e1 : IsCb (s.heap.update it (Obj.mapFields fun fs => fs.extract 0 3 ++ ([i', j'].map fun (n : Nat) => rawInt n).toArray)) it p 1 old i' j' := Heap.get?_update_self _ hit rfl
    have sb1 : Heap.SameBut it s.heap (s.heap.update it (Obj.mapFields fun fs => fs.extract 0 3 ++ ([i', j'].map fun (n : Nat) => rawInt n).toArray)) := Heap.SameBut.update ..
    exact fin _ e1 (fun b o n q => (sb1.2 b n).trans q) sb1.1 _
theorem next_end {it p : Addr} {old : Value} {items : Array Value} {k : Int} {i j : Nat} {Q : Option Value → Shared → Prop} (hh : A.handled = none) (hit : IsCb s.heap it p k old i j) (hp : s.heap.get? p = some { cls := .type "tuple", data := .seq items })
    (hk : k = 2 ∨ (k = 1 ∧ i < j ∧ j < items.size ∧ nx items.size (i, j) = none)) (hQ : ∀ h', (∀ b o, b ≠ it → s.heap.get? b = some o → h'.get? b = some o) → Q none { s with heap := h' }) :
    wpAny (model prog w) A (pyNext (.ref it)) Q E s := by
  have hT : s.TypeIs (.ref it) "itertools.combinations" := ⟨_, hit, rfl⟩
  unfold pyNext
  refine wpAny_bind (wpAny_attempt (wpAny_callSpecial?_slot (name := Str.ofString "__next__") hT slot_next (wpAny_call_entry slot_next hT entry_next ?_ (args_next _))))
  show wpAny _ _ (field (.ref it) 0 >>= _) _ _ s
  refine wpAny_bind (wpAny_field hit rfl (x := .ref p) rfl ?_)
  show wpAny _ _ (itNumbersFrom (.ref it) 3 >>= _) _ _ s
  refine wpAny_bind ?_
  unfold itNumbersFrom
  refine wpAny_bind (wpAny_load hit (wpAny_pure ?_))
  show wpAny _ _ ((field (.ref it) 1 >>= _) >>= _) _ _ s
  refine wpAny_bind (wpAny_bind (wpAny_field hit rfl (x := rawInt k) rfl (wpAny_pure ?_)))
  have stop : ∀ (h1 : Heap) (F : Fin → Shared → Prop), (∀ b o, b ≠ it → s.heap.get? b = some o → h1.get? b = some o) →
      wpAny (model prog w) A.in1 (itStop : Sem Fin) F (fun e s' => wpAny (model prog w) A (match (Except.error e : Except Value (Option Value)) with
        | .ok (some v) => pure (some v)
        | .ok none => unsupported "iter:the-iterator's-class-has-lost-its-__next__-amid-the-walk"
        | .error e => do if ← isInstance e (.type "StopIteration") then pure none else throw e) Q E s') { s with heap := h1 } := fun h1 F kk => by
    show wpAny _ _ (newExc (.type "StopIteration") [] >>= _) _ _ _
    refine wpAny_bind ?_
    simp only [newExc, newTuple]
    refine wpAny_bind (wpAny_newObj_type ?_ (by size_fits))
    refine wpAny_bind (m := firstArgMember _ _) (wpAny_of_eq (a := Value.none) (by first | rfl | (simp only [firstArgMember]; rfl)) ?_)
    refine wpAny_newObj_type ?_ (by size_fits)
    simp only [raiseNew]
    refine wpAny_bind (wpAny_handled ?_)
    first | rw [show A.in1.handled = none from hh] | rw [hh]
    refine wpAny_bind (wpAny_pure (wpAny_throw ?_))
    refine wpAny_bind (wpAny_isInstance (T := "StopIteration") (b := true) ⟨_, Heap.get?_push_size _ rfl, rfl⟩ isSubtype_stop ?_)
    exact wpAny_pure (hQ _ fun b o n q => Heap.get?_push_of_some _ (Heap.get?_push_of_some _ (kk b o n q)))
  rcases hk with rfl | ⟨rfl, hij, hj, hn⟩
  · show wpAny _ _ (rule _ >>= _) _ _ s
    exact wpAny_bind (wpAny_rule (stop s.heap _ fun b o _ q => q))
  · show wpAny _ _ ((itPoolItems (.ref p)) >>= _) _ _ s
    refine wpAny_bind ?_
    unfold itPoolItems
    refine wpAny_bind (wpAny_seqItems hp rfl (wpAny_pure ?_))
    have en : nc items.size [i, j] = none := by
      rw [nc_two hij hj, hn]
      rfl
    show wpAny _ _ (match nc items.size [((i : Nat) : Int).toNat, ((j : Nat) : Int).toNat] with
      | some next => itSetNumbersFrom (.ref it) 3 next >>= fun _ => (((itPoolItems (.ref p)) >>= fun items => newTuple (next.map fun i => items.getD i .none)) >>= fun result => field (.ref it) 2 >>= fun before => setField (.ref it) 2 result >>= fun _ => letGo [before] [result] >>= fun _ => ret result)
      | none => setField (.ref it) 1 (rawInt 2) >>= fun _ => itStop) _ _ s
    rw [Int.toNat_natCast, Int.toNat_natCast, en]
    show wpAny _ _ (setField (.ref it) 1 (rawInt 2) >>= _) _ _ s
    refine wpAny_bind (wpAny_setField_rec hit (by simp) fun h1 e1 sb1 => ?_)
    exact stop h1 _ fun b o n q => (sb1.2 b n).trans q
end
end Cb

/-! for .. in combinations(xs, 2) -/
namespace Cb
open PySem PySem.Spec PyProof.Rows L2 Hb St Sq RZ Zp
/-! ### the pairs of numbers -/
def prow (n a : Nat) : List (Nat × Nat) := (List.range (n - (a + 1))).map fun d => (a, a + 1 + d)
def prs (n : Nat) : List (Nat × Nat) := (List.range n).flatMap (prow n)
inductive Ch (n : Nat) : Option (Nat × Nat) → List (Nat × Nat) → Prop
  | nil : Ch n none []
  | cons {x : Nat × Nat} {l : List (Nat × Nat)} : Ch n (nx n x) l → Ch n (some x) (x :: l)
theorem Ch.head {n : Nat} {o : Option (Nat × Nat)} {l : List (Nat × Nat)} (c : Ch n o l) : l[0]? = o := by cases c <;> rfl
theorem Ch.step {n : Nat} {o : Option (Nat × Nat)} {l : List (Nat × Nat)} (c : Ch n o l) : ∀ (i : Nat) (x : Nat × Nat), l[i]? = some x → l[i + 1]? = nx n x := by
  induction c with
  | nil => intro i x h; cases h
  | cons c ih =>
    intro i x h
    cases i with
    | zero =>
      cases h
      rw [List.getElem?_cons_succ]
      exact c.head
    | succ i =>
      rw [List.getElem?_cons_succ] at h ⊢
      exact ih i x h
/-- a row from (a, b) on, and what follows -/
theorem ch_row {n a : Nat} {l : List (Nat × Nat)} (h : Ch n (if a + 2 < n then some (a + 1, a + 2) else none) l) : ∀ (k b : Nat), b + k = n → a < b → Ch n (if b < n then some (a, b) else if a + 2 < n then some (a + 1, a + 2) else none) ((List.range k).map (fun d => (a, b + d)) ++ l)
  | 0, b, e, _ => by
    rw [if_neg (by omega)]
    exact h
  | k + 1, b, e, hb => by
    rw [if_pos (by omega), List.range_succ_eq_map, List.map_cons, List.map_map]
    refine .cons ?_
    have ih := ch_row h k (b + 1) (by omega) (by omega)
    have e1 : nx n (a, b) = if b + 1 < n then some (a, b + 1) else if a + 2 < n then some (a + 1, a + 2) else none := rfl
    show Ch n (nx n (a, b)) _
    rw [e1]
    have e2 : (List.range k).map ((fun d => (a, b + d)) ∘ Nat.succ) = (List.range k).map fun d => (a, b + 1 + d) := List.map_congr_left fun d _ => by
      show (a, b + (d + 1)) = (a, b + 1 + d)
      rw [show b + (d + 1) = b + 1 + d by omega]
    rw [e2]
    exact ih
theorem ch_rows {n : Nat} : ∀ (k a : Nat), a + k = n → Ch n (if a + 1 < n then some (a, a + 1) else none) ((List.range k).flatMap fun d => prow n (a + d))
  | 0, a, e => by
    rw [if_neg (by omega)]
    exact .nil
  | k + 1, a, e => by
    have ih := ch_rows (n := n) k (a + 1) (by omega)
    rw [List.range_succ_eq_map, List.flatMap_cons, List.flatMap_map]
    have e2 : ((List.range k).flatMap fun x => prow n (a + x.succ)) = (List.range k).flatMap fun d => prow n (a + 1 + d) := by
      congr 1
      funext d
      rw [show a + d.succ = a + 1 + d by omega]
    rw [e2]
    have r := ch_row (n := n) (a := a) ih (n - (a + 1)) (a + 1) (by omega) (by omega)
    have e3 : (if a + 1 < n then some (a, a + 1) else if a + 2 < n then some (a + 1, a + 2) else none) = (if a + 1 < n then some (a, a + 1) else none : Option (Nat × Nat)) := by
      by_cases c : a + 1 < n
      · rw [if_pos c, if_pos c]
      · rw [if_neg c, if_neg c, if_neg (by omega)]
    rw [e3] at r
    exact r
theorem ch_prs (n : Nat) : Ch n (if 1 < n then some (0, 1) else none) (prs n) := by
  have := ch_rows (n := n) n 0 (by omega)
  simp only [Nat.zero_add] at this
  exact this
theorem mem_prs {n a b : Nat} : (a, b) ∈ prs n ↔ a < b ∧ b < n := by
  unfold prs prow
  simp only [List.mem_flatMap, List.mem_map, List.mem_range, Prod.mk.injEq]
  constructor
  · rintro ⟨c, hc, d, hd, rfl, rfl⟩
    omega
  · rintro ⟨h1, h2⟩
    exact ⟨a, by omega, b - (a + 1), by omega, rfl, by omega⟩
/-! ### the walk -/
def ItCb (ps : List (V × V)) : It := ⟨fun i _ => i < ps.length, fun i H v H' => ∃ T p, v = .ref T ∧ H T = none ∧ H' = upd H T (.tup [p.1, p.2]) ∧ ps[i]? = some p, fun i _ => ps.length ≤ i⟩
def tnCb (it p : Addr) (us : Array Value) (i : Nat) (h : Heap) : Prop :=
  h.get? p = some { cls := .type "tuple", data := .seq us } ∧ ∃ k old a b, IsCb h it p k old a b ∧ i ≤ (prs us.size).length ∧
    ((i = 0 ∧ k = (if 2 > us.size then 2 else 0) ∧ a = 0 ∧ b = 1) ∨ (k = 1 ∧ ∃ j, i = j + 1 ∧ (prs us.size)[j]? = some (a, b)))
def valPairs (xs : List V) : List (V × V) := (prs xs.length).map fun p => (xs.getD p.1 .non, xs.getD p.2 .non)
theorem turn_cb {P : Program} {w : World} {K : PySem.W.Frag} {elts : List Expr} {kk : Nat} {tpos : Pos} {it p : Addr} {us : List Value} {xs : List V} (rel : Vals xs us) (ne : p ≠ it) :
    Turn P w K (.Tuple elts kk tpos) (ItCb (valPairs xs)) [it, p] it (tnCb it p us.toArray) where
  mem := by simp
  obj := fun i h st c hc => by
    obtain ⟨hp, k, old, a, b, hit, _⟩ := st
    rcases (show c = it ∨ c = p by simpa using hc) with e | e
    · rw [e]; exact ⟨_, hit, fun v z => nomatch z⟩
    · rw [e]; exact ⟨_, hp, fun v z => nomatch z⟩
  keep := fun i h h' st f => by
    obtain ⟨hp, k, old, a, b, hit, r⟩ := st
    exact ⟨f p (by simp) _ hp, k, old, a, b, f it (by simp) _ hit, r⟩
  item := by
    intro X e1 e2 e3 cm i pins s σ H E I fr st gg
    subst e1 e2 e3
    obtain ⟨hp, k, old, a, b, hit, il, hk⟩ := st
    have len : us.toArray.size = xs.length := by rw [List.size_toArray]; exact rel.length.symm
    have lz : it < s.heap.objs.size := Heap.lt_size hit
    have lp : p < s.heap.objs.size := Heap.lt_size hp
    have gi : i < (prs xs.length).length := by
      have gg : i < (valPairs xs).length := gg
      unfold valPairs at gg
      rwa [List.length_map] at gg
    obtain ⟨⟨a', b'⟩, eab⟩ : ∃ q, (prs xs.length)[i]? = some q := ⟨_, List.getElem?_eq_getElem gi⟩
    obtain ⟨ab1, ab2⟩ := mem_prs.mp (List.mem_of_getElem? eab)
    have hk' : (k = 0 ∧ a' = a ∧ b' = b) ∨ (k = 1 ∧ a < b ∧ b < us.toArray.size ∧ nx us.toArray.size (a, b) = some (a', b')) := by
      rw [len] at hk ⊢
      rcases hk with ⟨rfl, hk, rfl, rfl⟩ | ⟨rfl, j, rfl, ej⟩
      · rw [if_neg (by omega)] at hk
        have h0 := (ch_prs xs.length).head
        rw [if_pos (by omega), eab] at h0
        cases h0
        exact .inl ⟨hk, rfl, rfl⟩
      · obtain ⟨m1, m2⟩ := mem_prs.mp (List.mem_of_getElem? ej)
        exact .inr ⟨rfl, m1, m2, ((ch_prs xs.length).step j _ ej).symm.trans eab⟩
    refine next_item hit hp ne hk' fun h' gz gN kp => ?_
    refine ⟨_, rfl, go_of (s := { s with heap := h' }) gz rfl rfl (by decide) ?_⟩
    have ga : ∀ c : Nat, c < xs.length → RelV (xs.getD c .non) (us.toArray.getD c .none) := fun c hc => by
      obtain ⟨u, hu, ru⟩ := rel.get (List.getElem?_eq_getElem hc)
      have h1 : us.toArray.getD c .none = u := by
        rw [Array.getD_eq_getD_getElem?, List.getElem?_toArray, hu]; rfl
      have h2 : xs.getD c .non = xs[c] := by rw [List.getD_eq_getElem?_getD, List.getElem?_eq_getElem hc]; rfl
      rw [h1, h2]; exact ru
    have neu : ObjOk X.prog X.w (upd H s.heap.objs.size (.tup [xs.getD a' .non, xs.getD b' .non])) h' s.heap.objs.size (.tup [xs.getD a' .non, xs.getD b' .non]) :=
      ⟨by show 2 ≤ sizeLine; decide, [_, _], .cons (ga a' (by omega)) (.cons (ga b' (by omega)) .nil), ⟨_, gN, rfl, _, rfl⟩⟩
    have I1 : Inv X pins σ (upd H s.heap.objs.size (.tup [xs.getD a' .non, xs.getD b' .non])) { s with heap := h' } :=
      I.turnedNew (t' := s.toks) (ch := [it, p]) (fun c o nc e => kp c o (fun z => nc (by rw [z]; simp)) e) fr (Nat.le_refl _) neu
    refine ⟨.ref s.heap.objs.size, _, I1, rfl, ⟨_, (xs.getD a' .non, xs.getD b' .non), rfl, I.hok.fresh (Nat.le_refl _), rfl, ?_⟩, ⟨kp p _ ne hp, 1, _, a', b', gz, by rw [len]; omega, .inr ⟨rfl, i, rfl, by rw [len]; exact eab⟩⟩, fun c cm => ?_⟩
    · unfold valPairs
      rw [List.getElem?_map, eab]; rfl
    · have lc : c < s.heap.objs.size := by
        rcases (show c = it ∨ c = p by simpa using cm) with e | e <;> rw [e] <;> assumption
      rw [upd_ne (Nat.ne_of_lt lc)]
      exact (fr c cm).1
  done := by
    intro X e1 e2 e3 cm i pins s σ H E I fr st gg
    subst e1 e2 e3
    obtain ⟨hp, k, old, a, b, hit, il, hk⟩ := st
    have len : us.toArray.size = xs.length := by rw [List.size_toArray]; exact rel.length.symm
    have gg : (valPairs xs).length ≤ i := gg
    unfold valPairs at gg
    rw [List.length_map] at gg
    refine next_end (I.ok.hd cm) hit hp ?_ fun h' kp => ⟨rfl, I.turnedL (t' := s.toks) (ch := [it, p]) (fun c o nc e => kp c o (fun z => nc (by rw [z]; simp)) e) fr⟩
    rw [len] at hk il ⊢
    rcases hk with ⟨rfl, hk, rfl, rfl⟩ | ⟨rfl, j, rfl, ej⟩
    · refine .inl (hk.trans (if_pos ?_))
      refine Decidable.byContradiction fun z => ?_
      have h0 := (ch_prs xs.length).head
      rw [if_pos (by omega), List.getElem?_eq_none (by omega)] at h0
      cases h0
    · obtain ⟨m1, m2⟩ := mem_prs.mp (List.mem_of_getElem? ej)
      refine .inr ⟨rfl, m1, m2, ?_⟩
      rw [← (ch_prs xs.length).step j _ ej]
      exact List.getElem?_eq_none gg
  self := fun A i s Q E st h => by
    obtain ⟨_, k, old, a, b, hit, _⟩ := st
    exact iter_c hit h
def iCb (K : PySem.W.Frag) (ta : TA) : TI := fun σ H R => ta σ H fun vs H1 => ∃ a xs, vs = [.ref a, .int 2] ∧ SqL K H1 a xs ∧ xs.length ≤ 1000 ∧ R (ItCb (valPairs xs)) H1
theorem pi_comb {X : Cx} {e e2 : Expr} {ta : TA} {p pos tpos : Pos} {elts : List Expr} {kk : Nat} {nm : Str} (gl : Gl X nm) (hm : X.mg nm = some (.type "itertools.combinations")) (ha : PA X [e, e2] ta) (hdb : (nm == ("__debug__" : Str)) = false := by decide)
    (se : starEach [e, e2] X.env = (false, eval e X.env) :: starEach [e2] X.env := by rfl) (sp : (backTo pos (starEach [e2] X.env)).any (·.1) = false := by rfl) :
    PI X (.Tuple elts kk tpos) (.Call (.Name nm p) [e, e2] [] pos) (iCb X.K ta) := by
  refine ⟨fun pins s σ H R I h => ?_⟩
  refine Call_ (ld_glob I gl hm (callWith_type1 (thn (ha.run pos pins s σ H _ I h) fun us s1 ⟨vs, H1, I1, r1, q1⟩ => ?_) se sp) hdb)
  obtain ⟨a, xs, rfl, hq, ln, q⟩ := q1
  obtain ⟨t, rfl⟩ : ∃ t, us = [.ref a, .int 2 t] := by
    cases r1 with
    | cons r r1 =>
      cases r1 with
      | cons r' r1 =>
        cases r1
        cases r
        obtain ⟨t, rfl⟩ := r'
        exact ⟨t, rfl⟩
  obtain ⟨its, rv, p', _⟩ := I1.list hq
  have hl := rv.length
  refine call_c p'.isList (by rw [List.size_toArray]; omega) fun h1 k1 h2 hit hp k2 => iter_c hit ?_
  have I2 : Inv X pins σ H1 { s1 with heap := h1 } := I1.kept (t' := s1.toks) k1
  have I3 : Inv X pins σ H1 { s1 with heap := h2 } := I2.kept (t' := s1.toks) k2
  refine ⟨h1.objs.size + 1, [h1.objs.size + 1, h1.objs.size], _, _, H1, rfl, I3, turn_cb rv (Nat.ne_of_lt (Nat.lt_succ_self _)), ⟨hp, _, _, _, _, hit, Nat.zero_le _, .inl ⟨rfl, rfl, rfl, rfl⟩⟩, fun c cm => ?_, q⟩
  have le : h1.objs.size ≤ c := by
    rcases (show c = h1.objs.size + 1 ∨ c = h1.objs.size by simpa using cm) with e | e <;> rw [e] <;> omega
  exact I2.fpOk le (I2.hok.fresh le)
theorem wp_cb {ps : List (V × V)} : Wp (ItCb ps) (fun _ => True) ps where
  go := fun i H hi _ => hi
  stop := fun H _ => Nat.le_refl _
  yld := fun i H v H' hi _ h => h
  keep := fun _ _ => trivial
end Cb

namespace K6
open PySem PySem.Spec PyProof.Rows L2 Hb St Sq Ow En Zp RZ Rd Xb Da Lo
/-- bells and a naming, of any data -/
structure Ears (K : PySem.W.Frag) (H : Hp) (u w : V) (e g : PyData) (l : Lot) (ns : List Int) : Prop where
  du : Dp K H u e
  dw : Dp K H w g
  su : Sm1 e
  sw : SmN g
  bl : nlD e = true → LotH H u l
  nm : namD l.length g = true → LotN H w ns ∧ l.length = ns.length
  nd : l.Nodup
theorem Ears.same {K : PySem.W.Frag} {H H' : Hp} {u w : V} {e g : PyData} {l : Lot} {ns : List Int} (r : Ears K H u w e g l ns) (s : Same H H') : Ears K H' u w e g l ns :=
  ⟨dp_same s r.du, dp_same s r.dw, r.su, r.sw, fun h => (r.bl h).same s, fun h => let ⟨a, b⟩ := r.nm h; ⟨a.on (.same s), b⟩, r.nd⟩
/-- tales in a list or a tuple, of any data -/
structure Tls (K : PySem.W.Frag) (H : Hp) (v : V) (d : PyData) (ts : List Tale) : Prop where
  dv : Dp K H v d
  sm : SmT d
  ok : toldE d = none → TalesX H K v ts ∧ ∀ t ∈ ts, TlOk t ∧ ∀ m ∈ t, m.length < 64
  ln : ts.length ≤ 30
theorem Tls.same {K : PySem.W.Frag} {H H' : Hp} {v : V} {d : PyData} {ts : List Tale} (t : Tls K H v d ts) (s : Same H H') : Tls K H' v d ts :=
  ⟨dp_same s t.dv, t.sm, fun n => let ⟨x, y⟩ := t.ok n; ⟨x.same s, y⟩, t.ln⟩
/-- the errors that are told -/
def ErrA (C : Addr) (H : Hp) (E : XK) (k : Int) : Prop := ∀ dd H', Same H H' → H' dd = some (errH k) → E (.ref C) (some dd) H'
def ErrW (D : Addr) (H : Hp) (E : XK) (x : Str) : Prop := ∀ dd H', Same H H' → H' dd = some (errW x) → E (.ref D) (some dd) H'
theorem ErrW.same {D : Addr} {H H1 : Hp} {E : XK} {x : Str} (h : ErrW D H E x) (s : Same H H1) : ErrW D H1 E x := fun dd H' s' e => h dd H' (s.trans s') e
theorem len_prs (n : Nat) (h : n ≤ 30) : (Cb.prs n).length ≤ 900 := by
  have : ∀ l : List Nat, (∀ a ∈ l, a < n) → (l.flatMap (Cb.prow n)).length ≤ l.length * 30 := fun l => by
    induction l with
    | nil => intro _; exact Nat.le_refl _
    | cons a l ih =>
      intro h'
      have h1 := ih fun b hb => h' b (.tail _ hb)
      rw [List.flatMap_cons, List.length_append, List.length_cons]
      have : (Cb.prow n a).length ≤ 30 := by unfold Cb.prow; rw [List.length_map, List.length_range]; omega
      omega
  have := this (List.range n) fun a ha => List.mem_range.mp ha
  rw [List.length_range] at this
  unfold Cb.prs
  omega
def PrH (H : Hp) (v : V) (p : Nat × Nat) : Prop := ∃ b, v = .ref b ∧ H b = some (.tup [.int (p.1 : Nat), .int (p.2 : Nat)])
theorem PrH.on {H H' : Hp} {v : V} {p : Nat × Nat} (h : PrH H v p) (k : TupK H H') : PrH H' v p := let ⟨b, e, t⟩ := h; ⟨b, e, k _ _ t⟩
def prD (p : Nat × Nat) : PyData := .tuple [.int (p.1 : Nat), .int (p.2 : Nat)]
theorem PrH.dp {K : PySem.W.Frag} {H : Hp} {v : V} {p : Nat × Nat} (h : PrH H v p) : Dp K H v (prD p) := let ⟨_, e, t⟩ := h; e ▸ .tup (SqT.of t) (.cons (.int _) (.cons (.int _) .nil))
def TupPrs (H : Hp) (a : Addr) (ps : List (Nat × Nat)) : Prop := ∃ its, H a = some (.tup its) ∧ All2 (PrH H) its ps
theorem rd_ixL {K : PySem.W.Frag} {H : Hp} {Q : VK} {a : Addr} {its : List V} {i : Nat} {x : V} (h : H a = some (.lst its)) (e : its[i]? = some x) (q : Q x H) : rIxL K (.ref a) (.int (i : Nat)) H Q := ⟨a, its, (i : Nat), x, rfl, rfl, SqL.of h, atI_nat e, q⟩
/-- the pairs that are left -/
def leftB (l : Lot) (ns : List Int) (t u : Tale) : Bool := !decide (thinT l t = thinT l u) && decide (tonT (tone l ns) t = tonT (tone l ns) u)
def uaF (ts : List Tale) (l : Lot) (ns : List Int) : List (Nat × Nat) := (Cb.prs ts.length).filter fun p => leftB l ns (ts.getD p.1 []) (ts.getD p.2 [])
def iD (l : List Int) : PyData := .tuple (l.map .int)
def tnD (t : List (List Int)) : PyData := .tuple (t.map iD)
theorem dp_ints {K : PySem.W.Frag} {H : Hp} : ∀ l : List Int, DpAll K H (l.map V.int) (l.map PyData.int)
  | [] => .nil
  | i :: r => .cons (.int _) (dp_ints r)
theorem LotN.dp {K : PySem.W.Frag} {H : Hp} {v : V} {l : List Int} (h : LotN H v l) : Dp K H v (iD l) := let ⟨_, e, t⟩ := h; e ▸ .tup (SqT.of t) (dp_ints l)
theorem TalN.dp {K : PySem.W.Frag} {H : Hp} {v : V} {t : List (List Int)} (h : TalN H v t) : Dp K H v (tnD t) := let ⟨_, _, e, ea, al⟩ := h; e ▸ .tup (SqT.of ea) (dp_all (fun _ _ r => r.dp) al)
theorem sh_iD (l : List Int) : Sh 1 (iD l) := sh_tup fun i _ => sh_int 0 i
theorem sh_tnD (t : List (List Int)) : Sh 2 (tnD t) := sh_tup fun l _ => sh_iD l
theorem eqv_iD (a b : List Int) : PyData.eqv (iD a) (iD b) = decide (a = b) := eqvAll_map eqv_int a b
theorem eqv_tnD (a b : List (List Int)) : PyData.eqv (tnD a) (tnD b) = decide (a = b) := eqvAll_map (f := iD) eqv_iD a b
theorem rd_eqTn {K : PySem.W.Frag} {H : Hp} {Q : VK} {v u : V} {a b : List (List Int)} (ha : TalN H v a) (hb : TalN H u b) (q : Q (.bl (decide (a = b))) H) : rEqD K v u H Q :=
  ⟨tnD a, tnD b, ha.dp, hb.dp, (sh_tnD a).ok (by decide), (sh_tnD b).ok (by decide), by rw [eqv_tnD]; exact q⟩
section
variable {P : Program} {w : World} {K : PySem.W.Frag} {mg : Str → Option Value} {base : Heap}
/-! ### need_all -/
abbrev s_need_all : Stmt := top 29
theorem sc_need_all : FnScope ["tales", "bells"] ["tales", "bells"] (defScope s_need_all) := ⟨rfl, rfl, rfl, by decide +kernel, rfl, by decide +kernel, by decide +kernel⟩
def spAll (K : PySem.W.Frag) (C D : Addr) : Sp := fun vs H Q E => ∃ (v u : V) (d e : PyData), vs = [v, u] ∧ Dp K H v d ∧ SmT d ∧ Dp K H u e ∧ Sm1 e ∧ (toldE d = none → nlD e = true → ∀ H', Same H H' → Q .non H') ∧ (∀ k, toldE d = some k → ErrA C H E k) ∧ (toldE d = none → nlD e = false → ErrW D H E (Str.ofString "bells"))
theorem ok_all {f C D : Addr} {fd : FuncData} (F : Fun K "need_all" "need_all" s_need_all f fd) (C_need_told : Cx_ P w K mg base "need_told" ["tales"] 5 (spNeedT K C)) (C_need_bells : Cx_ P w K mg base "need_bells" ["bells"] 4 (spBellsD K D)) : FnOk P w K mg base (L2.CX P w) 6 f fd ["tales", "bells"] (spAll K C D) := by
  refine F.okX sc_need_all (fun vs H Q E h => ?_) (fun cdv A outer s H vs Q E hr h => ?_)
  · obtain ⟨_, _, _, _, rfl, _⟩ := h
    rfl
  · obtain ⟨v, u, d, e, rfl, dv, sm, du, su, q, q1, q2⟩ := h
    refine ⟨_, (pss_cons (ps_expr (pe_useX C_need_told (hr.mono (by decide)) (fun σ => passAt (takes_of rfl rfl rfl rfl) σ) rfl (pa_cons (pv 0) pa_nil)))
      (pss_one (ps_expr (pe_useX C_need_bells (hr.mono (by decide)) (fun σ => passAt (takes_of rfl rfl rfl rfl) σ) rfl (pa_cons (pv 1) pa_nil))))), ?_⟩
    refine ⟨_, rfl, v, d, rfl, dv, sm, fun no H1 s1 => ?_, q1⟩
    exact ⟨_, rfl, u, e, rfl, dp_same s1 du, su, fun b H2 s2 => q no b _ (s1.trans s2), fun b => (q2 no b).same s1⟩
/-! ### heard_tones -/
abbrev s_heard_tones : Stmt := top 27
theorem sc_heard_tones : FnScope ["lots", "bells", "naming"] ["lots", "bells", "naming"] (defScope s_heard_tones) := ⟨rfl, rfl, rfl, by decide +kernel, rfl, by decide +kernel, by decide +kernel⟩
def spHeardD (K : PySem.W.Frag) (C D : Addr) : Sp := fun vs H Q E => ∃ (v u x : V) (d e g : PyData) (t : Tale) (l : Lot) (ns : List Int), vs = [v, u, x] ∧ Dp K H v d ∧ Sm2 d ∧ (taleD d = true → TalH H v t ∧ TlOk t ∧ ∀ m ∈ t, m.length < 64) ∧ Ears K H u x e g l ns ∧
  (taleD d = true → nlD e = true → namD l.length g = true → ∀ p H', Same H H' → TalN H' (.ref p) (tonT (tone l ns) t) → Q (.ref p) H') ∧ (taleD d = false → ErrA C H E 0) ∧ (taleD d = true → nlD e = false → ErrW D H E (Str.ofString "bells")) ∧ (taleD d = true → nlD e = true → namD l.length g = false → ErrW D H E (Str.ofString "naming"))
theorem ok_heardt {f fn C D : Addr} {fd : FuncData} (F : Fun K "heard_tones" "heard_tones" s_heard_tones f fd) (N : FnR P w K mg base (L2.CX P w) 4 fn (spNeedR K C)) (gN : mg "need_tales" = some (.ref fn)) (kN : PySem.W.keepIn K (.ref fn) = true) (C_need_bells : Cx_ P w K mg base "need_bells" ["bells"] 4 (spBellsD K D)) (C_need_naming : Cx_ P w K mg base "need_naming" ["bells", "naming"] 3 (spNamD K D)) (C_tones_in : Cl P w K mg base "tones_in" ["lots", "bells", "naming"] [] 2 (spTones K)) : FnOk P w K mg base (L2.CX P w) 5 f fd ["lots", "bells", "naming"] (spHeardD K C D) := by
  refine F.okX sc_heard_tones (fun vs H Q E h => ?_) (fun cdv A outer s H vs Q E hr h => ?_)
  · obtain ⟨_, _, _, _, _, _, _, _, _, rfl, _⟩ := h
    rfl
  · obtain ⟨v, u, x, d, e, g, t, l, ns, rfl, dv, s2, okt, er, q, q1, q2, q3⟩ := h
    refine ⟨_, (pss_cons (ps_expr (pe_goR N gN kN (hr.mono (by decide)) (fun σ => passAt (takes_of rfl rfl rfl rfl) σ) rfl (pa_cons (pv 0) pa_nil)))
    (pss_cons (ps_expr (pe_useX C_need_bells (hr.mono (by decide)) (fun σ => passAt (takes_of rfl rfl rfl rfl) σ) rfl (pa_cons (pv 1) pa_nil)))
    (pss_cons (ps_expr (pe_useX C_need_naming (hr.mono (by decide)) (fun σ => passAt (takes_of rfl rfl rfl rfl) σ) rfl (pa_cons (pv 1) (pa_cons (pv 2) pa_nil))))
    (pss_one (ps_ret (pe_use C_tones_in (hr.mono (by decide)) rfl (pa_cons (pv 0) (pa_cons (pv 1) (pa_cons (pv 2) pa_nil))))))))), ?_⟩
    refine ⟨_, rfl, [], [v], rfl, rfl, by show 1 ≤ sizeLine; decide, fun p hp => ?_⟩
    have k1 := same_new hp (.tup [v])
    have fst : firstNo [d] = if taleD d = true then none else some 0 := by
      unfold firstNo
      rw [List.findIdx?_cons]
      cases c : taleD d with
      | true => rfl
      | false => rfl
    refine ⟨p, [v], [d], rfl, upd_same, .cons (dp_same k1 dv) .nil, by show 1 ≤ 1000; decide, fun d' hd => by rw [List.mem_singleton.mp hd]; exact s2, fun no H2 k2 => ?_, fun k hk dd H2 k2 ed => ?_⟩
    · have td : taleD d = true := by
        cases c : taleD d with
        | true => rfl
        | false => rw [c] at fst; rw [fst] at no; cases no
      have k12 := k1.trans k2
      have er2 := er.same k12
      refine ⟨_, rfl, u, e, rfl, er2.du, er2.su, fun b H3 k3 => ?_, fun b => (q2 td b).same k12⟩
      have k13 := k12.trans k3
      have er3 := er.same k13
      obtain ⟨lb, rfl, elb⟩ := er3.bl b
      refine ⟨_, rfl, _, rfl, lb, x, l.length, _, g, rfl, elb, by rw [List.length_map], er3.dw, er3.sw, fun n H4 k4 => ?_, fun n => (q3 td b n).same k13⟩
      obtain ⟨⟨xb, rfl, exb⟩, ll⟩ := (er3.same k4).nm n
      obtain ⟨ht, ok, sm⟩ := okt td
      exact ⟨_, rfl, _, rfl, _, rfl, v, lb, xb, t, l, ns, rfl, ht.same (k13.trans k4), ok, sm, k4 _ _ elb, exb, ll, er.nd, fun p H5 k5 r => q td b n p H5 ((k13.trans k4).trans k5) r⟩
    · have td : taleD d = false := by
        cases c : taleD d with
        | true => rw [c] at fst; rw [fst] at hk; cases hk
        | false => rfl
      rw [td] at fst
      rw [fst] at hk
      cases hk
      exact q1 td dd H2 (k1.trans k2) ed
/-! ### unheard_among -/
abbrev s_unheard_among : Stmt := top 31
theorem sc_unheard_among : FnScope ["tales", "bells", "naming", "heard", "told", "numbers", "tale", "i", "j"] ["tales", "bells", "naming"] (defScope s_unheard_among) := ⟨rfl, rfl, rfl, by decide +kernel, rfl, by decide +kernel, by decide +kernel⟩
def spUA (K : PySem.W.Frag) : Sp := fun vs H Q _ => ∃ (v : V) (b n : Addr) (ts : List Tale) (l : Lot) (ns : List Int), vs = [v, .ref b, .ref n] ∧ TalesX H K v ts ∧ (∀ t ∈ ts, TlOk t ∧ ∀ m ∈ t, m.length < 64) ∧ ts.length ≤ 30 ∧ H b = some (.tup (l.map V.str)) ∧ H n = some (.tup (ns.map V.int)) ∧ l.length = ns.length ∧ l.Nodup ∧ ∀ p H', Same H H' → TupPrs H' p (uaF ts l ns) → Q (.ref p) H'
theorem ok_ua {f : Addr} {fd : FuncData} (F : Fun K "unheard_among" "unheard_among" s_unheard_among f fd) (C_thin_tale : Cl P w K mg base "thin_tale" ["tale", "names"] [] 2 (spThinT K)) (C_tones_in : Cl P w K mg base "tones_in" ["lots", "bells", "naming"] [] 2 (spTones K)) (n_comb : mg "combinations" = some (.type "itertools.combinations")) (n_len : mg "len" = none) (n_list : mg "list" = none) (n_range : mg "range" = none) (n_tuple : mg "tuple" = none) : FnOk P w K mg base CX0 3 f fd ["tales", "bells", "naming"] (spUA K) := by
  refine F.ok sc_unheard_among (fun vs H Q E h => ?_) (fun cdv A outer s H vs Q E hr h => ?_)
  · obtain ⟨_, _, _, _, _, _, rfl, _⟩ := h
    rfl
  · obtain ⟨v, b, n, ts, l, ns, rfl, htx, okT, l30, eb, en, ll, nd, q⟩ := h
    refine ⟨_, (pss_cons (ps_set (i := 3) sc_unheard_among.nd rfl (Or.inr rfl) (pe_lc (own := [("tale", 6)]) (g := gName 6) rfl sc_unheard_among.nd (pi_seq (pv 0)) (blkOk_by (N := ["tales", "bells", "naming", "heard", "told", "numbers", "tale", "i", "j"]) (sc := defScope s_unheard_among) (by decide +kernel)) (fun _ _ _ _ _ => pg_name (i := 6) sc_unheard_among.nd rfl (Or.inl rfl)) (fun _ _ _ _ _ => pts_nil) (fun _ _ _ _ _ => pe_use C_tones_in (hr.mono (by decide)) rfl (pa_cons (pv 6) (pa_cons (pv 1) (pa_cons (pv 2) pa_nil))))))
    (pss_cons (ps_set (i := 4) sc_unheard_among.nd rfl (Or.inr rfl) (pe_lc (own := [("tale", 6)]) (g := gName 6) rfl sc_unheard_among.nd (pi_seq (pv 0)) (blkOk_by (N := ["tales", "bells", "naming", "heard", "told", "numbers", "tale", "i", "j"]) (sc := defScope s_unheard_among) (by decide +kernel)) (fun _ _ _ _ _ => pg_name (i := 6) sc_unheard_among.nd rfl (Or.inl rfl)) (fun _ _ _ _ _ => pts_nil) (fun _ _ _ _ _ => pe_use C_thin_tale (hr.mono (by decide)) rfl (pa_cons (pv 6) (pa_cons (pv 1) pa_nil)))))
    (pss_cons (ps_set (i := 5) sc_unheard_among.nd rfl (Or.inl rfl) (pe_listRg rfl (by rfl) n_list (prg_1 (by rfl) n_range (pe_callB call_len_seq (by rfl) n_len PySem.boot_len (pa_cons (pv 0) pa_nil)))))
    (pss_one (ps_ret (pe_callTy call_tuple_of (by rfl) n_tuple (by decide +kernel) (pa_cons (pe_lc (own := [("i", 7), ("j", 8)]) (g := gTup K 2 (gCons (gName 7) (gCons (gName 8) gNil))) rfl sc_unheard_among.nd (Cb.pi_comb (by rfl) n_comb (pa_cons (pv 5) (pa_cons pe_int pa_nil))) (blkOk_by (N := ["tales", "bells", "naming", "heard", "told", "numbers", "tale", "i", "j"]) (sc := defScope s_unheard_among) (by decide +kernel)) (fun _ _ _ _ _ => pg_tup rfl (pgs_cons (pg_name (i := 7) sc_unheard_among.nd rfl (Or.inl rfl)) (pgs_cons (pg_name (i := 8) sc_unheard_among.nd rfl (Or.inl rfl)) pgs_nil))) (fun _ _ _ _ _ => pts_one (PW.pt (pw_and (pt_cmpR (r := rNeD K) (op_neD hr.units) (pe_ix (r := rIxL K) ix_list (pv 4) (pv 7) (fun _ _ => rfl)) (pe_ix (r := rIxL K) ix_list (pv 4) (pv 8) (fun _ _ => rfl)) (nomark _)) (pw_and1 (pt_cmpR (r := rEqD K) (op_eqD hr.units) (pe_ix (r := rIxL K) ix_list (pv 3) (pv 7) (fun _ _ => rfl)) (pe_ix (r := rIxL K) ix_list (pv 3) (pv 8) (fun _ _ => rfl)) (nomark _)))))) (fun _ _ _ _ _ => pe_tup (pa_cons (pv 7) (pa_cons (pv 8) pa_nil)))) pa_nil))))))), ?_⟩
    obtain ⟨a, its, rfl, hx, al⟩ := htx
    have ln := al.len
    refine ⟨_, rfl, a, its, rfl, hx, fun J S W0 z0 D kD => ?_⟩
    refine lc_mf (ds := ts) W0 (fun _ => true) (fun H y t => TalN H y (tonT (tone l ns) t)) z0 kD ln (fun i y t H' ey et s m => ?_) (fun H1 ys s1 e1 al1 => ?_)
    · obtain ⟨t', et', ht⟩ := al.get ey
      obtain rfl : t' = t := Option.some.inj (et'.symm.trans et)
      obtain ⟨ok, sm⟩ := okT _ (at_mem et)
      refine ⟨rfl, _, rfl, _, rfl, _, rfl, y, b, n, t', l, ns, rfl, ht.same s, ok, sm, s _ _ eb, s _ _ en, ll, nd, fun p H2 s2 r => ?_⟩
      exact mf_yes m kD (fun _ _ _ _ f h => h.on (.fix f)) et (by omega) s2 rfl r
    rw [Rd.filter_all] at al1
    refine ⟨_, rfl, a, its, rfl, sqxSame s1 hx, fun J S W0 z0 D2 kD2 => ?_⟩
    refine lc_mf (ds := ts) W0 (fun _ => true) (fun H y t => TalH H y (thinT l t)) z0 kD2 ln (fun i y t H' ey et s m => ?_) (fun H2 zs s2 e2 al2 => ?_)
    · obtain ⟨t', et', ht⟩ := al.get ey
      obtain rfl : t' = t := Option.some.inj (et'.symm.trans et)
      obtain ⟨ok, sm⟩ := okT _ (at_mem et)
      refine ⟨rfl, _, rfl, _, rfl, y, b, t', l, rfl, (ht.same s1).same s, SqX.tup ((s1.trans s) _ _ eb), ok, fun p H2 s2 r => ?_⟩
      exact mf_yes m kD2 (fun _ _ _ _ f h => h.on (.fix f)) et (by omega) s2 rfl r
    rw [Rd.filter_all] at al2
    have s12 := s1.trans s2
    refine ⟨_, rfl, a, its, rfl, sqxSame s12 hx, _, rfl, RgOk.of_le (Int.le_refl _) (by omega) (by decide) (by omega), fun qp hq => ?_⟩
    have s3 := same_new hq (.lst (rgV 0 (its.length : Nat)))
    have eq : upd H2 qp (.lst (rgV 0 (its.length : Nat))) qp = some (.lst (rgV 0 (its.length : Nat))) := upd_same
    generalize upd H2 qp (.lst (rgV 0 (its.length : Nat))) = H3 at s3 eq ⊢
    have lrg : (rgV 0 (its.length : Nat)).length = ts.length := by rw [rgV_length]; omega
    refine ⟨_, rfl, qp, _, rfl, SqL.of eq, by rw [lrg]; omega, fun D3 kD3 => ?_⟩
    refine lc_mp Cb.wp_cb (ds := Cb.prs ts.length) (fun p => leftB l ns (ts.getD p.1 []) (ts.getD p.2 [])) PrH trivial kD3 (by unfold Cb.valPairs; rw [List.length_map, lrg]) (fun _ _ _ _ f h => h.on (.fix f)) (fun i T p x H4 ep ex s4 eT m => ?_) (fun H4 ys4 s4 e4 al4 => ?_)
    · have l9 := len_prs _ l30
      obtain ⟨m1, m2⟩ := Cb.mem_prs.mp (show (x.1, x.2) ∈ _ from List.mem_of_getElem? ex)
      have ep' : p = (V.int (x.1 : Nat), V.int (x.2 : Nat)) := by
        unfold Cb.valPairs at ep
        rw [lrg, List.getElem?_map, ex] at ep
        have g : ∀ c : Nat, c < ts.length → (rgV 0 (its.length : Nat)).getD c .non = V.int (c : Nat) := fun c hc => by
          unfold rgV
          rw [List.getD_eq_getElem?_getD, List.getElem?_map, List.getElem?_range (by omega)]
          show V.int (0 + (c : Nat)) = _
          rw [Int.zero_add]
        have e : ((rgV 0 (its.length : Nat)).getD x.1 .non, (rgV 0 (its.length : Nat)).getD x.2 .non) = p := Option.some.inj ep
        rw [g x.1 (by omega), g x.2 m2] at e
        exact e.symm
      subst ep'
      have s24 := s3.trans s4
      have s14 := s2.trans s24
      obtain ⟨t1, f1⟩ : ∃ t, ts[x.1]? = some t := ⟨_, List.getElem?_eq_getElem (by omega)⟩
      obtain ⟨t2, f2⟩ : ∃ t, ts[x.2]? = some t := ⟨_, List.getElem?_eq_getElem (by omega)⟩
      obtain ⟨h1, g1, r1⟩ := al1.getR f1
      obtain ⟨h2, g2, r2⟩ := al1.getR f2
      obtain ⟨w1, k1, z1⟩ := al2.getR f1
      obtain ⟨w2, k2, z2⟩ := al2.getR f2
      have nm : ∀ {t}, t ∈ ts → ∀ m ∈ thinT l t, ∀ y ∈ m, IsNm y := fun h => ((okT _ h).1.thin l).nm
      refine ⟨T, _, rfl, SqT.of eT, rfl, _, _, rfl, _, _, rfl, rfl, rfl, ?_⟩
      refine ⟨_, rfl, _, rfl, rd_ixL (s24 _ _ e2) k1 ⟨_, rfl, _, rfl, rd_ixL (s24 _ _ e2) k2 ?_⟩⟩
      refine rd_neT (z1.same s24) (z2.same s24) (nm (at_mem f1)) (nm (at_mem f2)) ⟨_, rfl, ?_⟩
      have ek : leftB l ns (ts.getD x.1 []) (ts.getD x.2 []) = (!decide (thinT l t1 = thinT l t2) && decide (tonT (tone l ns) t1 = tonT (tone l ns) t2)) := by
        rw [List.getD_eq_getElem?_getD, List.getD_eq_getElem?_getD, f1, f2]; rfl
      cases c : !decide (thinT l t1 = thinT l t2) with
      | false =>
        rw [c] at ek
        exact iteF (mf_no m (fun _ _ _ _ f h => h.on (.fix f)) ex (Same.refl _) ek)
      | true =>
        rw [c] at ek
        refine iteT ⟨_, rfl, _, rfl, rd_ixL (s14 _ _ e1) g1 ⟨_, rfl, _, rfl, rd_ixL (s14 _ _ e1) g2 ?_⟩⟩
        refine rd_eqTn (r1.on (.same s14)) (r2.on (.same s14)) ⟨_, rfl, ?_⟩
        cases c2 : decide (tonT (tone l ns) t1 = tonT (tone l ns) t2) with
        | false =>
          rw [c2] at ek
          exact iteF (mf_no m (fun _ _ _ _ f h => h.on (.fix f)) ex (Same.refl _) ek)
        | true =>
          rw [c2] at ek
          refine iteT ⟨_, rfl, _, rfl, by show 2 ≤ sizeLine; decide, fun t ht => ?_⟩
          exact mf_yes m kD3 (fun _ _ _ _ f h => h.on (.fix f)) ex (by omega) (same_new ht _) ek ⟨t, rfl, upd_same⟩
    · refine ⟨D3, ys4, rfl, .inl ⟨SqL.of e4, fun p hp => ?_⟩⟩
      have s5 := same_new hp (.tup ys4)
      exact q p _ (((s12.trans s3).trans s4).trans s5) ⟨ys4, upd_same, al4.imp fun _ _ r => r.on (.same s5)⟩
/-! ### unheard_pairs -/
abbrev s_unheard_pairs : Stmt := top 30
theorem sc_unheard_pairs : FnScope ["tales", "bells", "naming"] ["tales", "bells", "naming"] (defScope s_unheard_pairs) := ⟨rfl, rfl, rfl, by decide +kernel, rfl, by decide +kernel, by decide +kernel⟩
def spUPairs (K : PySem.W.Frag) (C D : Addr) : Sp := fun vs H Q E => ∃ (v u x : V) (d e g : PyData) (ts : List Tale) (l : Lot) (ns : List Int), vs = [v, u, x] ∧ Tls K H v d ts ∧ Ears K H u x e g l ns ∧
  (toldE d = none → nlD e = true → namD l.length g = true → ∀ p H', Same H H' → TupPrs H' p (uaF ts l ns) → Q (.ref p) H') ∧ (∀ k, toldE d = some k → ErrA C H E k) ∧ (toldE d = none → nlD e = false → ErrW D H E (Str.ofString "bells")) ∧ (toldE d = none → nlD e = true → namD l.length g = false → ErrW D H E (Str.ofString "naming"))
theorem ok_upairs {f C D : Addr} {fd : FuncData} (F : Fun K "unheard_pairs" "unheard_pairs" s_unheard_pairs f fd) (C_need_all : Cx_ P w K mg base "need_all" ["tales", "bells"] 6 (spAll K C D)) (C_need_naming : Cx_ P w K mg base "need_naming" ["bells", "naming"] 3 (spNamD K D)) (C_unheard_among : Cl P w K mg base "unheard_among" ["tales", "bells", "naming"] [] 3 (spUA K)) : FnOk P w K mg base (L2.CX P w) 7 f fd ["tales", "bells", "naming"] (spUPairs K C D) := by
  refine F.okX sc_unheard_pairs (fun vs H Q E h => ?_) (fun cdv A outer s H vs Q E hr h => ?_)
  · obtain ⟨_, _, _, _, _, _, _, _, _, rfl, _⟩ := h
    rfl
  · obtain ⟨v, u, x, d, e, g, ts, l, ns, rfl, tl, er, q, q1, q2, q3⟩ := h
    refine ⟨_, (pss_cons (ps_expr (pe_useX C_need_all (hr.mono (by decide)) (fun σ => passAt (takes_of rfl rfl rfl rfl) σ) rfl (pa_cons (pv 0) (pa_cons (pv 1) pa_nil))))
    (pss_cons (ps_expr (pe_useX C_need_naming (hr.mono (by decide)) (fun σ => passAt (takes_of rfl rfl rfl rfl) σ) rfl (pa_cons (pv 1) (pa_cons (pv 2) pa_nil))))
    (pss_one (ps_ret (pe_use C_unheard_among (hr.mono (by decide)) rfl (pa_cons (pv 0) (pa_cons (pv 1) (pa_cons (pv 2) pa_nil)))))))), ?_⟩
    refine ⟨_, rfl, _, rfl, v, u, d, e, rfl, tl.dv, tl.sm, er.du, er.su, fun no b H1 s1 => ?_, q1, q2⟩
    have er1 := er.same s1
    obtain ⟨lb, rfl, elb⟩ := er1.bl b
    refine ⟨_, rfl, _, rfl, lb, x, l.length, _, g, rfl, elb, by rw [List.length_map], er1.dw, er1.sw, fun n H2 s2 => ?_, fun n => (q3 no b n).same s1⟩
    obtain ⟨⟨xb, rfl, exb⟩, ll⟩ := (er1.same s2).nm n
    have s12 := s1.trans s2
    obtain ⟨tx, okT⟩ := (tl.same s12).ok no
    exact ⟨_, rfl, _, rfl, _, rfl, v, lb, xb, ts, l, ns, rfl, tx, okT, tl.ln, s2 _ _ elb, exb, ll, er.nd, fun p H3 s3 r => q no b n p H3 (s12.trans s3) r⟩
end
end K6

/-! max of a tuple of whole numbers with a default -/
namespace Zp
open PySem PySem.Spec PyProof.Rows L2 Hb St Sq RZ
def rMaxTDf (K : PySem.W.Frag) : List V → List V → Hp → VK → Prop := fun xs zs H Q => ∃ (a : Addr) (ns : List Int) (d : Int), xs = [.ref a] ∧ zs = [.int d] ∧ SqT K H a (ns.map V.int) ∧ (ns = [] → Q (.int d) H) ∧ ∀ m, m ∈ ns → (∀ y ∈ ns, y ≤ m) → Q (.int m) H
theorem cr_maxTDf {X : Cx} (hc : X.calm = true) (hu : X.A.units + 64 < cLine) : CallRK X (.builtin "max") ["default"] (rMaxTDf X.K) := by
  intro pins s σ H xs zs us ws Q I r1 r2 h
  obtain ⟨a, ns, d, rfl, rfl, hs, q0, q1⟩ := h
  obtain ⟨its, rv, hl, _⟩ := I.tuple hs
  cases r2 with
  | cons rd rt =>
    cases rt
    obtain ⟨t, rfl⟩ := rd
    rw [Vals.ref1 r1]
    show wpAny (model X.prog X.w) X.A (call (.builtin "max") [.ref a] [(Str.ofString "default", _)]) _ _ s
    refine PySem.W.max_tuple_datum_default (α := Int) (I.ok.hd hc) (show s.heap.IsTuple a its.toArray from hl) (PySem.W.HoldAll.of_ints rv.ints) (by show X.A.units + 1 + 0 < cLine; omega) (fun e h' tk hk => ⟨.int d, H, I.kept hk, ⟨_, rfl⟩, q0 e⟩) fun y ys i v h' tk e hv hh hk => ?_
    obtain ⟨as, hr⟩ := hh
    obtain ⟨m1, m2⟩ := maxOf_is y ys
    generalize PySem.W.maxOf y ys = m at hr m1 m2
    have hr : Reads h' v (.int m) as := hr
    cases hr with
    | int _ t => exact ⟨.int m, H, I.kept hk, ⟨t, rfl⟩, q1 m (e ▸ m1) fun y hy => m2 y (e ▸ hy)⟩
def rMaxT (K : PySem.W.Frag) : List V → Hp → VK → Prop := fun vs H Q => ∃ (a : Addr) (n : Int) (ns : List Int), vs = [V.ref a] ∧ SqT K H a ((n :: ns).map V.int) ∧ ∀ m, m ∈ n :: ns → (∀ y ∈ n :: ns, y ≤ m) → Q (.int m) H
theorem cr_maxT {X : Cx} (hc : X.calm = true) (hu : X.A.units + 64 < cLine) : CallR X (.builtin "max") (rMaxT X.K) := by
  intro pins s σ H xs us Q I r1 h
  obtain ⟨a, n, ns, rfl, hs, q1⟩ := h
  obtain ⟨its, rv, hl, _⟩ := I.tuple hs
  rw [Vals.ref1 r1]
  refine PySem.W.max_tuple_datum (α := Int) (I.ok.hd hc) (show s.heap.IsTuple a its.toArray from hl) (PySem.W.HoldAll.of_ints rv.ints) (by show X.A.units + 1 + 0 < cLine; omega) fun i v h' tk hv hh hk => ?_
  obtain ⟨as, hr⟩ := hh
  obtain ⟨m1, m2⟩ := maxOf_is n ns
  generalize PySem.W.maxOf n ns = m at hr m1 m2
  have hr : Reads h' v (.int m) as := hr
  cases hr with
  | int _ t => exact ⟨.int m, H, I.kept hk, ⟨t, rfl⟩, q1 m m1 m2⟩
end Zp

/-! a loop over a walk, within a comprehension: any body -/
namespace Wa
open PySem PySem.Spec PyProof.Rows L2 Hb St Sq
theorem wk_go {J : It} {a : Addr} {S : Hp → Prop} {xs : List V} (W : Wk J a S xs) {B : (Hp → Prop) → V → Hp → Prop} {Qd : Hp → Prop} {H0 : Hp} (M : Nat → Hp → Prop) (h0 : M 0 H0) (hk : ∀ i H, M i H → S H) (hs : ∀ i x H, xs[i]? = some x → M i H → B (M (i + 1)) x H) (hd : ∀ H, M xs.length H → Qd H) :
    ∃ W : Nat → Nat → Hp → Prop, (∃ m, W 0 m H0) ∧ ∀ i m H, W i m H → (J.stop i H ∧ Qd H) ∨ (J.go i H ∧ ∃ Nx : Hp → Prop, (∀ H', Nx H' → ∃ m', m' < m ∧ W (i + 1) m' H') ∧ ∀ x H', J.yld i H x H' → B Nx x H') := by
  refine ⟨fun i m H => m + i = xs.length ∧ M i H, ⟨xs.length, rfl, h0⟩, fun i m H ⟨e, p⟩ => ?_⟩
  cases m with
  | zero =>
    obtain rfl : i = xs.length := by omega
    exact .inl ⟨W.stop H (hk _ _ p), hd H p⟩
  | succ m =>
    refine .inr ⟨W.go i H (by omega) (hk _ _ p), M (i + 1), fun H' p' => ⟨m, Nat.lt_succ_self m, by omega, p'⟩, fun v H' y => ?_⟩
    obtain ⟨rfl, ev⟩ := W.yld i H v H' (by omega) (hk _ _ p) y
    exact hs i v H' ev p
end Wa

namespace K6
open PySem PySem.Spec PyProof.Rows L2 Hb St Sq Ow En Zp RZ Rd Xb Da Lo Lg
/-! ### dicts by tones -/
def kvT : Nat → List Int → List (Key × V)
  | _, [] => []
  | i, t :: r => (.inl t, .int ((i : Int) + 1)) :: kvT (i + 1) r
theorem idxN_cons (x : Int) (r : List Int) (t : Int) : idxN (x :: r) t = if x = t then 0 else idxN r t + 1 := rfl
theorem coA_cons (led : List (Int × Int)) (t h : Int) (r : List (Int × Int)) : coA led ((t, h) :: r) = match ldG led h with
    | some x => decide (x = t) && coA led r
    | none => decide ((if 0 < h then t else 0) = t) && coA (led ++ [(h, if 0 < h then t else 0)]) r := rfl
theorem kvT_len : ∀ (i : Nat) (ts : List Int), (kvT i ts).length = ts.length
  | _, [] => rfl
  | i, t :: r => by
    show (kvT (i + 1) r).length + 1 = _
    rw [kvT_len (i + 1) r]; rfl
theorem kvT_val : ∀ (i : Nat) (ts : List Int) (t : Int), valV (kvT i ts) (.inl t) = if t ∈ ts then some (.int ((i : Int) + (idxN ts t : Int) + 1)) else none
  | i, [], t => by rw [if_neg (by simp)]; rfl
  | i, x :: r, t => by
    show valV ((.inl x, .int ((i : Int) + 1)) :: kvT (i + 1) r) (.inl t) = _
    by_cases c : x = t
    · subst c
      rw [valV_pos rfl, if_pos List.mem_cons_self]
      rw [idxN_cons, if_pos rfl]
      simp
    · rw [valV_neg (fun z => c (by injection z)), kvT_val (i + 1) r t]
      rw [idxN_cons, if_neg c]
      by_cases m : t ∈ r
      · rw [if_pos m, if_pos (List.mem_cons_of_mem _ m)]
        congr 2
        omega
      · rw [if_neg m, if_neg fun z => (List.mem_cons.mp z).elim (fun e => c e.symm) m]
theorem kvT_snoc : ∀ (i : Nat) (ts : List Int) (t : Int), kvT i (ts ++ [t]) = kvT i ts ++ [(.inl t, .int ((i : Int) + (ts.length : Int) + 1))]
  | i, [], t => by
    show [(Sum.inl t, V.int ((i : Int) + 1))] = [(Sum.inl t, V.int ((i : Int) + ((0 : Nat) : Int) + 1))]
    simp
  | i, x :: r, t => by
    show (.inl x, .int ((i : Int) + 1)) :: kvT (i + 1) (r ++ [t]) = (.inl x, .int ((i : Int) + 1)) :: kvT (i + 1) r ++ _
    rw [kvT_snoc (i + 1) r t, List.cons_append, List.length_cons]
    have e : ((i + 1 : Nat) : Int) + (r.length : Int) + 1 = (i : Int) + ((r.length + 1 : Nat) : Int) + 1 := by omega
    rw [e]
theorem putK_new {κ : Type} [DecidableEq κ] {kvs : List (κ × V)} {k : κ} {v : V} (h : valV kvs k = none) : putK kvs k v = kvs ++ [(k, v)] := by
  unfold putK
  rw [valV_any, h]
  rfl
theorem kvT_put {ts : List Int} {t : Int} (h : t ∉ ts) : putK (kvT 0 ts) (.inl t) (.int ((ts.length : Int) + 1)) = kvT 0 (ts ++ [t]) := by
  rw [putK_new (by rw [kvT_val, if_neg h]), kvT_snoc]
  congr 4
  simp
def kvL (led : List (Int × Int)) : List (Key × V) := led.map fun q => (.inl q.1, .int q.2)
theorem kvL_val : ∀ (led : List (Int × Int)) (k : Int), valV (kvL led) (.inl k) = (ldG led k).map V.int
  | [], _ => rfl
  | (h, x) :: r, k => by
    show valV ((.inl h, .int x) :: kvL r) (.inl k) = (if h = k then some x else ldG r k).map V.int
    by_cases c : h = k
    · subst c
      rw [valV_pos rfl, if_pos rfl]; rfl
    · rw [valV_neg (fun z => c (by injection z)), if_neg c, kvL_val r k]
theorem kvL_put {led : List (Int × Int)} {h x : Int} (e : ldG led h = none) : putK (kvL led) (.inl h) (.int x) = kvL (led ++ [(h, x)]) := by
  rw [putK_new (by rw [kvL_val, e]; rfl)]
  unfold kvL
  rw [List.map_append]; rfl
/-- a list of namings -/
def NamsH (H : Hp) (a : Addr) (ns : List Nam) : Prop := ∃ its, H a = some (.lst its) ∧ All2 (LotN H) its ns
theorem NamsH.same {H H' : Hp} {a : Addr} {ns : List Nam} (h : NamsH H a ns) (s : Same H H') : NamsH H' a ns := let ⟨its, e, al⟩ := h; ⟨its, s _ _ e, al.imp fun _ _ r => r.on (.same s)⟩
theorem same_off {H H1 : Hp} {a : Addr} {o : HO} (s : Same H H1) (n : H a = none) : Same H (upd H1 a o) := fun b u e => by rw [upd_ne (ne_of_none e n)]; exact s _ _ e
section
variable {P : Program} {w : World} {K : PySem.W.Frag} {mg : Str → Option Value} {base : Heap}
/-! ### plain_naming -/
abbrev s_plain_naming : Stmt := top 25
theorem sc_plain_naming : FnScope ["naming", "tones", "plain", "tone"] ["naming"] (defScope s_plain_naming) := ⟨rfl, rfl, rfl, by decide +kernel, rfl, by decide +kernel, by decide +kernel⟩
def spPlain (K : PySem.W.Frag) : Sp := fun vs H Q _ => ∃ (v : V) (ns : Nam), vs = [v] ∧ LotN H v ns ∧ ns.length ≤ 100 ∧ ∀ p H', Same H H' → LotN H' (.ref p) (plainN ns) → Q (.ref p) H'
theorem ok_plain {f : Addr} {fd : FuncData} (F : Fun K "plain_naming" "plain_naming" s_plain_naming f fd) (n_len : mg "len" = none) (n_tuple : mg "tuple" = none) : FnOk P w K mg base CX0 1 f fd ["naming"] (spPlain K) := by
  refine F.ok sc_plain_naming (fun vs H Q E h => ?_) (fun cdv A outer s H vs Q E hr h => ?_)
  · obtain ⟨_, _, rfl, _⟩ := h
    rfl
  · obtain ⟨v, ns, rfl, ⟨a, rfl, ea⟩, ln, q⟩ := h
    refine ⟨_, (pss_cons (ps_set (i := 1) sc_plain_naming.nd rfl (Or.inl rfl) (pe_dnewK))
    (pss_cons (ps_set (i := 2) sc_plain_naming.nd rfl (Or.inl rfl) (pe_lst pa_nil))
    (Evl.pss_cut (ps_for PassesOwn.never rfl (pi_seq (pv 0)) (pg_name (i := 3) sc_plain_naming.nd rfl (Or.inl rfl))
      (pss_one (ps_expr (pe_bm PySem.F.plainAttrs_list PySem.F.slot_list_append PySem.F.type_list_append mt_append (pv 2) (pa_cons (pe_ifExp (pt_cmpR op_gt (pv 3) pe_int (nomark _)) (pe_dsetd (pv 1) (pv 3) (pe_op op_add (pe_callB call_lenD (by rfl) n_len PySem.boot_len (pa_cons (pv 1) pa_nil)) pe_int) ⟨rfl, rfl, rfl, rfl⟩) pe_int) pa_nil)))))
    (pss_one (ps_ret (pe_callTy call_tuple_of (by rfl) n_tuple (by decide +kernel) (pa_cons (pv 2) pa_nil))))))), ?_⟩
    refine fun d kd => ⟨by show 0 ≤ sizeLine; decide, fun M kM => ?_⟩
    have d0 := kd
    have s1 := same_new kd (.dK [])
    have M0 : H M = none := by
      cases h : H M with
      | none => rfl
      | some o => rw [s1 _ _ h] at kM; cases kM
    have s2 := s1.trans (same_new kM (.lst []))
    have ed : upd (upd H d (.dK [])) M (.lst []) d = some (.dK (kvT 0 [])) := (same_new kM _) _ _ upd_same
    have eM : upd (upd H d (.dK [])) M (.lst []) M = some (.lst (([] : List Int).map V.int)) := upd_same
    have dM : d ≠ M := fun z => by rw [← z, upd_same] at kM; cases kM
    generalize upd (upd H d (.dK [])) M (.lst []) = H1 at s2 ed eM ⊢
    clear s1 kM kd
    let S : L2.St → Prop := fun σ => ∃ o3, σ = [some (.ref a), some (.ref d), some (.ref M), o3]
    let Inv : Hp → Nat → Prop := fun H' i => ∃ ts acc, Same H H' ∧ H' d = some (.dK (kvT 0 ts)) ∧ H' M = some (.lst (acc.map V.int)) ∧ plI ts acc (ns.drop i) = plainN ns ∧ ts.length ≤ i ∧ acc.length = i
    refine ⟨fun σ H' => S σ ∧ Inv H' ns.length, ?_, ?_⟩
    · refine ⟨_, rfl, a, _, rfl, SqX.tup (s2 _ _ ea), fun J S2 W z0 => ?_⟩
      refine for_sq W (fun i σ H' => S σ ∧ Inv H' i) ⟨⟨none, rfl⟩, [], [], s2, ed, eM, rfl, Nat.le_refl _, rfl⟩ (fun i σ H' ⟨_, ts, acc, s, _⟩ => W.keep (fun o e => by
        rw [s2 _ _ ea] at e
        cases e
        exact s _ _ ea) z0) ?_ ?_
      · rintro i σ H2 y ey ⟨⟨o3, rfl⟩, ts, acc, s, ed2, eM2, pl, tl, cl⟩
        obtain ⟨t, et, rfl⟩ := at_intR ey
        obtain ⟨hi, gi⟩ := List.getElem?_eq_some_iff.mp et
        rw [List.drop_eq_getElem_cons hi, gi] at pl
        unfold plI at pl
        have fin : ∀ {H3 : Hp} {ts' : List Int} {x : Int}, Same H H3 → H3 d = some (.dK (kvT 0 ts')) → H3 M = some (.lst (acc.map V.int)) → plI ts' (acc ++ [x]) (ns.drop (i + 1)) = plainN ns → ts'.length ≤ i + 1 → S [some (.ref a), some (.ref d), some (.ref M), some (.int t)] ∧ Inv (upd H3 M (.lst (acc.map V.int ++ [.int x]))) (i + 1) := fun s3 e3 m3 p3 l3 =>
          ⟨⟨_, rfl⟩, _, _, same_off s3 M0, by rw [upd_ne dM]; exact e3, by rw [upd_same, List.map_append]; rfl, p3, l3, by rw [List.length_append, cl]; rfl⟩
        have ll : (acc.map V.int).length < sizeLine := by rw [List.length_map, sizeLine_eq]; omega
        refine ⟨_, rfl, .inl ⟨rfl, _, SqL.of eM2⟩, _, rfl, _, _, rfl, rfl, _, rfl, iteD (fun c => ?_) fun c => ?_⟩
        · rw [if_pos c] at pl
          refine ⟨_, rfl, d, rfl, .inl ⟨_, .inl ed2⟩, _, rfl, _, rfl, d, _, rfl, ed2, _, _, rfl, rfl, kvT 0 ts, .inl t, ed2, rfl, by rw [kvT_len, sizeLine_eq]; omega, fun v hv => ?_, fun hv => ?_⟩
          · rw [kvT_val] at hv
            by_cases m : t ∈ ts
            · rw [if_pos m] at hv pl
              cases hv
              refine ⟨M, _, _, rfl, rfl, eM2, ll, ?_⟩
              rw [show (((0 : Nat) : Int) + (idxN ts t : Int) + 1) = (idxN ts t : Int) + 1 by simp]
              exact fin s ed2 eM2 pl (by omega)
            · rw [if_neg m] at hv; cases hv
          · rw [kvT_val] at hv
            by_cases m : t ∈ ts
            · rw [if_pos m] at hv; cases hv
            · rw [if_neg m] at pl
              rw [kvT_len, kvT_put m]
              have eM3 : upd H2 d (.dK (kvT 0 (ts ++ [t]))) M = some (.lst (acc.map V.int)) := by rw [upd_ne dM.symm]; exact eM2
              exact ⟨M, _, _, rfl, rfl, eM3, ll, fin (same_off s d0) upd_same eM3 pl (by rw [List.length_append]; show _ + 1 ≤ _; omega)⟩
        · rw [if_neg c] at pl
          exact ⟨M, _, _, rfl, rfl, eM2, ll, fin s ed2 eM2 pl (by omega)⟩
      · rintro σ H2 ⟨st, iv⟩
        rw [List.length_map] at iv
        exact ⟨st, iv⟩
    rintro σ H2 ⟨⟨o3, rfl⟩, ts, acc, s, ed2, eM2, pl, tl, cl⟩
    rw [List.drop_length] at pl
    refine ⟨_, rfl, M, _, rfl, .inl ⟨SqL.of eM2, fun p hp => ?_⟩⟩
    refine q p _ (s.trans (same_new hp _)) ⟨p, rfl, ?_⟩
    rw [upd_same, ← pl]; rfl
/-! ### is_coarser -/
abbrev s_is_coarser : Stmt := top 26
theorem sc_is_coarser : FnScope ["naming", "other", "led", "tone", "heard"] ["naming", "other"] (defScope s_is_coarser) := ⟨rfl, rfl, rfl, by decide +kernel, rfl, by decide +kernel, by decide +kernel⟩
def spCoarse (K : PySem.W.Frag) : Sp := fun vs H Q _ => ∃ (v u : V) (n m : Nam), vs = [v, u] ∧ LotN H v n ∧ LotN H u m ∧ n.length ≤ 100 ∧ (∀ x ∈ m, 0 ≤ x) ∧ ∀ H', Same H H' → Q (.bl (coarN n m)) H'
theorem ok_coarse {f : Addr} {fd : FuncData} (F : Fun K "is_coarser" "is_coarser" s_is_coarser f fd) (n_len : mg "len" = none) (n_zip : mg "zip" = none) : FnOk P w K mg base CX0 1 f fd ["naming", "other"] (spCoarse K) := by
  refine F.ok sc_is_coarser (fun vs H Q E h => ?_) (fun cdv A outer s H vs Q E hr h => ?_)
  · obtain ⟨_, _, _, _, rfl, _⟩ := h
    rfl
  · obtain ⟨v, u, n, m, rfl, ⟨a, rfl, ea⟩, ⟨b, rfl, eb⟩, ln, pos, q⟩ := h
    refine ⟨_, (Evl.pss_cut (ps_if (pt_cmpR op_ne (pe_callB call_len_seq (by rfl) n_len PySem.boot_len (pa_cons (pv 0) pa_nil)) (pe_callB call_len_seq (by rfl) n_len PySem.boot_len (pa_cons (pv 1) pa_nil)) (nomark _)) (pss_one (ps_ret pe_bl)) pss_nil)
    (pss_cons (ps_set (i := 2) sc_is_coarser.nd rfl (Or.inl rfl) (pe_dnewK))
    (Evl.pss_cut (ps_for PassesOwn.never rfl (pi_zipA (by rfl) n_zip (pa_cons (pv 0) (pa_cons (pv 1) pa_nil))) (pg_tup rfl (pgs_cons (pg_name (i := 3) sc_is_coarser.nd rfl (Or.inl rfl)) (pgs_cons (pg_name (i := 4) sc_is_coarser.nd rfl (Or.inl rfl)) pgs_nil)))
      (pss_one (ps_if (pt_cmpR op_ne (pe_dsetd (pv 2) (pv 4) (pe_ifExp (pt_cmpR op_gt (pv 4) pe_int (nomark _)) (pv 3) pe_int) ⟨rfl, rfl, rfl, rfl⟩) (pv 3) (nomark _)) (pss_one (ps_ret pe_bl)) pss_nil)))
    (pss_one (ps_ret pe_bl))))), ?_⟩
    unfold coarN at q
    refine ⟨fun σ H' => σ = [some (.ref a), some (.ref b), none, none, none] ∧ H' = H ∧ n.length = m.length, ?_, ?_⟩
    · refine ⟨_, rfl, a, _, rfl, .inr (SqT.of ea), _, rfl, b, _, rfl, .inr (SqT.of eb), rfl, _, rfl, ?_⟩
      rw [List.length_map, List.length_map]
      by_cases c : n.length = m.length
      · rw [decide_eq_true (by rw [c])]
        exact iteF ⟨rfl, rfl, c⟩
      · rw [decide_eq_false fun z => c (by injection z with z; exact Int.ofNat_inj.mp z)]
        rw [decide_eq_false c, Bool.false_and] at q
        exact iteT (q _ (Same.refl _))
    rintro σ H0 ⟨rfl, rfl, ll⟩
    rw [decide_eq_true ll, Bool.true_and] at q
    have pz : ∀ x ∈ n.zip m, 0 ≤ x.2 := fun x hx => pos _ (List.of_mem_zip hx).2
    rw [← coA_nil pz] at q
    refine fun d kd => ?_
    have s1 := same_new kd (.dK [])
    have ed : upd H0 d (.dK []) d = some (.dK (kvL [])) := upd_same
    generalize upd H0 d (.dK []) = H1 at s1 ed ⊢
    let S : L2.St → Prop := fun σ => ∃ o3 o4, σ = [some (.ref a), some (.ref b), some (.ref d), o3, o4]
    let Inv : Hp → Nat → Prop := fun H' i => ∃ led, Same H0 H' ∧ H' d = some (.dK (kvL led)) ∧ coA led ((n.zip m).drop i) = coA [] (n.zip m) ∧ led.length ≤ i
    refine ⟨fun σ H' => S σ ∧ Inv H' n.length, ?_, ?_⟩
    · refine ⟨_, rfl, _, rfl, a, b, _, _, rfl, .inr ⟨SqT.of (s1 _ _ ea), SqT.of (s1 _ _ eb), ?_⟩⟩
      refine for_zipT (xs := n.map V.int) (ys := m.map V.int) (by rw [List.length_map, List.length_map]; exact ll) (fun i σ H' => S σ ∧ Inv H' i) ⟨⟨none, none, rfl⟩, [], s1, ed, rfl, Nat.le_refl _⟩ (fun i σ H' ⟨_, led, s, _⟩ => ⟨SqT.of (s _ _ ea), SqT.of (s _ _ eb)⟩) ?_ ?_
      · rintro i x y T σ H2 ex ey ⟨⟨o3, o4, rfl⟩, led, s, ed2, co, le⟩ hT
        obtain ⟨t, et, rfl⟩ := at_intR ex
        obtain ⟨h, eh, rfl⟩ := at_intR ey
        have s3 := same_new hT (.tup [V.int t, .int h])
        refine ⟨T, _, rfl, SqT.of upd_same, rfl, _, _, rfl, _, _, rfl, rfl, ?_⟩
        have s := s.trans s3
        have ed2 := s3 _ _ ed2
        generalize upd H2 T (.tup [V.int t, .int h]) = H3 at s ed2 ⊢
        have hz : (n.zip m)[i]? = some (t, h) := List.getElem?_zip_eq_some.mpr ⟨et, eh⟩
        obtain ⟨hi, gi⟩ := List.getElem?_eq_some_iff.mp hz
        have hi2 : i < n.length := (List.getElem?_eq_some_iff.mp et).1
        rw [List.drop_eq_getElem_cons hi, gi] at co
        rw [coA_cons] at co
        let x0 : Int := if 0 < h then t else 0
        have fin : ∀ {H4 : Hp} (led' : List (Int × Int)) (x : Int), Same H0 H4 → H4 d = some (.dK (kvL led')) → (decide (x = t) && coA led' ((n.zip m).drop (i + 1))) = coA [] (n.zip m) → led'.length ≤ i + 1 → (if (!decide (V.int x = V.int t)) = true then Q (.bl false) H4 else (S [some (.ref a), some (.ref b), some (.ref d), some (.int t), some (.int h)] ∧ Inv H4 (i + 1))) := fun {H4} led' x s4 e4 c4 l4 => by
          by_cases c : x = t
          · subst c
            rw [decide_eq_true rfl, Bool.true_and] at c4
            rw [decide_eq_true rfl]
            exact iteF ⟨⟨_, _, rfl⟩, led', s4, e4, c4, l4⟩
          · rw [decide_eq_false c, Bool.false_and] at c4
            rw [decide_eq_false fun z => c (by injection z)]
            refine iteT ?_
            have := q H4 s4
            rw [← c4] at this
            exact this
        have main : ∀ z : Int, z = x0 → ∃ (kvs : List (Key × V)) (k : Key), H3 d = some (.dK kvs) ∧ V.int h = kV k ∧ kvs.length < sizeLine ∧ (∀ v, valV kvs k = some v → ∃ x, v = .int x ∧ (if (!decide (V.int x = V.int t)) = true then Q (.bl false) H3 else (S [some (.ref a), some (.ref b), some (.ref d), some (.int t), some (.int h)] ∧ Inv H3 (i + 1)))) ∧ (valV kvs k = none → (if (!decide (V.int z = V.int t)) = true then Q (.bl false) (upd H3 d (.dK (putK kvs k (.int z)))) else (S [some (.ref a), some (.ref b), some (.ref d), some (.int t), some (.int h)] ∧ Inv (upd H3 d (.dK (putK kvs k (.int z)))) (i + 1)))) := fun z ez => by
          refine ⟨kvL led, .inl h, ed2, rfl, by unfold kvL; rw [List.length_map, sizeLine_eq]; omega, fun v hv => ?_, fun hv => ?_⟩
          · rw [kvL_val] at hv
            cases c : ldG led h with
            | none => rw [c] at hv; cases hv
            | some x =>
              rw [c] at hv co
              cases hv
              exact ⟨x, rfl, fin led x s ed2 co (by omega)⟩
          · rw [kvL_val] at hv
            cases c : ldG led h with
            | some x => rw [c] at hv; cases hv
            | none =>
              rw [c] at co
              rw [kvL_put c]
              subst ez
              exact fin _ _ (same_off s kd) upd_same co (by rw [List.length_append]; show _ + 1 ≤ _; omega)
        refine ⟨_, rfl, d, rfl, .inl ⟨_, .inl ed2⟩, _, rfl, _, rfl, _, _, rfl, rfl, _, rfl, iteD (fun c => ?_) fun c => ?_⟩
        · obtain ⟨kvs, k, e1, e2, e3, e4, e5⟩ := main t (show t = if 0 < h then t else 0 by rw [if_pos c])
          refine ⟨_, rfl, kvs, k, e1, e2, e3, fun v hv => ?_, fun hv => ⟨_, rfl, rfl, _, rfl, e5 hv⟩⟩
          obtain ⟨x, rfl, g⟩ := e4 v hv
          exact ⟨_, rfl, rfl, _, rfl, g⟩
        · obtain ⟨kvs, k, e1, e2, e3, e4, e5⟩ := main 0 (show 0 = if 0 < h then t else 0 by rw [if_neg c])
          refine ⟨kvs, k, e1, e2, e3, fun v hv => ?_, fun hv => ⟨_, rfl, rfl, _, rfl, e5 hv⟩⟩
          obtain ⟨x, rfl, g⟩ := e4 v hv
          exact ⟨_, rfl, rfl, _, rfl, g⟩
      · rintro σ H2 ⟨st, iv⟩
        rw [List.length_map] at iv
        exact ⟨st, iv⟩
    rintro σ H2 ⟨⟨o3, o4, rfl⟩, led, s, ed2, co, le⟩
    have : (n.zip m).drop n.length = [] := List.drop_eq_nil_of_le (by rw [List.length_zip]; omega)
    rw [this] at co
    have := q H2 s
    rw [← co] at this
    exact this
end
end K6

namespace K6
open PySem PySem.Spec PyProof.Rows L2 Hb St Sq Ow En Zp RZ Rd Xb Da Lo Lg Wa
theorem pa_starK {X : Cx} {K : PySem.W.Frag} {e : Expr} {es : List Expr} {p : Pos} {te : TE} {t : TA} (hK : X.K = K) (he : PE X e te) (hr : PA X es t) (hs : starEach (.Starred e p :: es) X.env = (true, eval e X.env) :: starEach es X.env := by rfl) : PA X (.Starred e p :: es) (StX.tStar K te t) := by
  cases hK
  exact StX.pa_star he hr hs
theorem rg_at {n j : Nat} {y : V} (h : ((List.range n).map fun k : Nat => V.int (0 + (k : Nat)))[j]? = some y) : y = .int (j : Nat) ∧ j < n := by
  rw [List.getElem?_map] at h
  rcases Nat.lt_or_ge j n with c | c
  · rw [List.getElem?_range c] at h
    have := Option.some.inj h
    exact ⟨by rw [← this]; show V.int (0 + _) = _; rw [Int.zero_add], c⟩
  · rw [List.getElem?_eq_none (by rw [List.length_range]; exact c)] at h
    cases h
theorem nams_at {k : Nat} (hk : k ≤ 4) {n : Nam} (h : n ∈ namsP k) : n.length = k ∧ (∀ t ∈ n, 0 ≤ t) ∧ ∀ t ∈ n, t ≤ 4 :=
  let ⟨a, b⟩ := nams_in k hk n h; ⟨a, fun t ht => (b t ht).1, fun t ht => (b t ht).2⟩
theorem mx_le {n : Nam} (h0 : ∀ t ∈ n, 0 ≤ t) (h : ∀ t ∈ n, t ≤ 4) : 0 ≤ mxI n ∧ mxI n ≤ 4 := by
  obtain ⟨a, b, c⟩ := foldl_max n 0
  unfold mxI
  rcases c with c | c
  · rw [c]; decide
  · exact ⟨h0 _ c, h _ c⟩
theorem rd_mx {K : PySem.W.Frag} {H : Hp} {Q : VK} {a : Addr} {n : Nam} (e : H a = some (.tup (n.map V.int))) (p : ∀ x ∈ n, 0 ≤ x) (q : Q (.int (mxI n)) H) : rMaxTDf K [.ref a] [.int 0] H Q :=
  ⟨a, n, 0, rfl, rfl, SqT.of e, fun z => by subst z; exact q, fun m hm hl => by rw [← mx_is p hm hl]; exact q⟩
section
variable {P : Program} {w : World} {K : PySem.W.Frag} {mg : Str → Option Value} {base : Heap}
/-! ### plain_namings -/
abbrev s_plain_namings : Stmt := top 32
theorem sc_plain_namings : FnScope ["many", "namings", "_", "naming", "tone"] ["many"] (defScope s_plain_namings) := ⟨rfl, rfl, rfl, by decide +kernel, rfl, by decide +kernel, by decide +kernel⟩
def spNams (K : PySem.W.Frag) : Sp := fun vs H Q _ => ∃ k : Nat, vs = [.int (k : Int)] ∧ k ≤ 4 ∧ ∀ p H', Same H H' → NamsH H' p (namsP k) → Q (.ref p) H'
theorem ok_nams {f : Addr} {fd : FuncData} (F : Fun K "plain_namings" "plain_namings" s_plain_namings f fd) (n_range : mg "range" = none) (n_max : mg "max" = none) : FnOk P w K mg base CX0 1 f fd ["many"] (spNams K) := by
  refine F.ok sc_plain_namings (fun vs H Q E h => ?_) (fun cdv A outer s H vs Q E hr h => ?_)
  · obtain ⟨_, rfl, _⟩ := h
    rfl
  · obtain ⟨k, rfl, hk, q⟩ := h
    refine ⟨_, (pss_cons (ps_set (i := 1) sc_plain_namings.nd rfl (Or.inl rfl) (pe_lst (pa_cons (pe_tup pa_nil) pa_nil)))
    (Evl.pss_cut (ps_for PassesOwn.never rfl (pi_range1 (by rfl) n_range (pa_cons (pv 0) pa_nil)) (pg_name (i := 2) sc_plain_namings.nd rfl (Or.inl rfl))
      (pss_one (ps_setLc2 (i := 1) (own := [("naming", 3), ("tone", 4)]) (vs1 := [4]) (g := gName 3) (g1 := gName 4) (by rfl) sc_plain_namings.nd rfl rfl (sw_true rfl rfl rfl (by decide +kernel)) (pi_seq (pv 1)) (blkOk_by (N := ["many", "namings", "_", "naming", "tone"]) (sc := defScope s_plain_namings) (by decide +kernel)) (by decide) (fun _ _ _ _ _ => pg_name (i := 3) sc_plain_namings.nd rfl (Or.inl rfl)) (fun _ _ _ _ _ => pts_nil) (fun _ _ _ _ _ => pi_range1 (by rfl) n_range (pa_cons (pe_op op_add (pe_callBK (r := rMaxTDf K) (cr_maxTDf rfl hr.units) (by rfl) n_max PyProof.Rows.boot_max (pa_cons (pv 3) pa_nil) (pk_cons pe_int pk_nil)) pe_int) pa_nil)) (fun _ _ _ _ _ => pg_name (i := 4) sc_plain_namings.nd rfl (Or.inl rfl)) (fun _ _ _ _ _ => pts_nil) (fun _ _ _ _ _ => pe_tup (pa_starK (K := K) rfl (pv 3) (pa_cons (pv 4) pa_nil))))))
    (pss_one (ps_ret (pv 1))))), ?_⟩
    refine ⟨by show 0 ≤ sizeLine; decide, fun t kt => ⟨by show 1 ≤ sizeLine; decide, fun lp kl => ?_⟩⟩
    have a0 := same_new kt (.tup [])
    have a1 := same_new kl (.lst [.ref t])
    have h1 : NamsH (upd (upd H t (.tup [])) lp (.lst [.ref t])) lp (namsP 0) := ⟨[.ref t], upd_same, .cons ⟨t, rfl, a1 _ _ upd_same⟩ .nil⟩
    have s1 : Same H (upd (upd H t (.tup [])) lp (.lst [.ref t])) := a0.trans a1
    generalize upd (upd H t (.tup [])) lp (.lst [.ref t]) = H1 at h1 s1 ⊢
    refine ⟨fun σ H' => ∃ p o2 o3 o4, σ = [some (.int (k : Int)), some (.ref p), o2, o3, o4] ∧ Same H H' ∧ NamsH H' p (namsP k), ?_, ?_⟩
    · refine ⟨_, rfl, _, rfl, by omega, by omega, ?_⟩
      refine for_range (n := (k : Int).toNat) (fun i σ H' => ∃ p o2 o3 o4, σ = [some (.int (k : Int)), some (.ref p), o2, o3, o4] ∧ Same H H' ∧ NamsH H' p (namsP i)) ⟨lp, _, _, _, rfl, s1, h1⟩ ?_ (fun σ H' h => by rw [show (k : Int).toNat = k by omega] at h; exact h)
      rintro i σ H2 hi ⟨p, o2, o3, o4, rfl, s2, its, ep, al⟩
      have hk2 : i + 1 ≤ 4 := by omega
      have l52 := nams_len (i + 1) hk2
      refine ⟨_, rfl, p, its, rfl, SqX.lst ep, fun J S W z0 D hD => ?_⟩
      let M : List Nam → Hp → Prop := fun acc H' => Same H2 H' ∧ ∃ ys, H' D = some (.lst ys) ∧ All2 (LotN H') ys acc
      have grow : ∀ {acc : List Nam} {n : Nam} {b : Addr} {H3 H' : Hp}, M acc H3 → Same H3 H' → H' b = some (.tup (n.map V.int)) → ∃ ys, H' D = some (.lst ys) ∧ ys.length = acc.length ∧ M (acc ++ [n]) (upd H' D (.lst (ys ++ [.ref b]))) := fun {acc n b H3 H'} m s3 eb => by
        obtain ⟨sm, ys, ey, al⟩ := m
        have ey' := s3 _ _ ey
        have fx : Fix H' (upd H' D (.lst (ys ++ [.ref b]))) := Fix.lst ey'
        exact ⟨ys, ey', al.len, same_off (sm.trans s3) hD, _, upd_same, (al.imp fun _ _ r => (r.on (.same s3)).on (.fix fx)).app (.cons (LotN.on ⟨b, rfl, eb⟩ (.fix fx)) .nil)⟩
      refine wk_go W (fun i2 H' => M (((namsP i).take i2).flatMap growN) H') ⟨same_new hD _, [], upd_same, .nil⟩ (fun i2 H' m => W.keep (fun o e => m.1 _ _ e) z0) (fun i2 y H3 ey m => ?_) (fun H3 m => ?_)
      · obtain ⟨n, en, nb, rfl, enb⟩ := al.get ey
        obtain ⟨hnl, hn0, hn4⟩ := nams_at (k := i) (by omega) (at_mem en)
        obtain ⟨mx0, mx4⟩ := mx_le hn0 hn4
        have enb3 := m.1 _ _ enb
        have tk : ((namsP i).take (i2 + 1)).flatMap growN = ((namsP i).take i2).flatMap growN ++ growN n := flat_take _ _ en
        have lt := flat_le growN (namsP i) (i2 + 1)
        rw [tk, List.length_append] at lt
        have lt2 : ((namsP i).flatMap growN).length ≤ 52 := l52
        refine ⟨rfl, _, rfl, ?_⟩
        dsimp only [tNil, tCons, tC]
        refine rd_mx enb3 hn0 ?_
        refine ⟨_, _, rfl, rfl, _, rfl, by omega, by omega, ?_⟩
        rw [tk]
        have gl : ∀ j, (growN n).take (j + 1) = (growN n).take j ++ (if j < (mxI n + 2).toNat then [n ++ [(j : Int)]] else []) := fun j => by
          rw [List.take_add_one]
          unfold growN
          rw [List.getElem?_map]
          by_cases c : j < (mxI n + 2).toNat
          · rw [if_pos c, List.getElem?_range c]; rfl
          · rw [if_neg c, List.getElem?_eq_none (by rw [List.length_range]; omega)]; rfl
        have gln : (growN n).length = (mxI n + 2).toNat := by unfold growN; rw [List.length_map, List.length_range]
        refine wk_go (wk_range (a := D)) (fun j G => M (((namsP i).take i2).flatMap growN ++ (growN n).take j) G) (by rw [List.take_zero, List.append_nil]; exact m) (fun _ _ _ => trivial) (fun j y G ey m2 => ?_) (fun G m2 => ?_)
        · obtain ⟨rfl, hj⟩ := rg_at ey
          have enb4 := m2.1 _ _ enb
          refine ⟨rfl, _, rfl, nb, _, rfl, .inl (SqT.of enb4), _, rfl, by show (n.map V.int ++ [V.int (j : Int)]).length ≤ sizeLine; rw [List.length_append, List.length_map, hnl, sizeLine_eq]; show i + 1 ≤ _; omega, fun t ht => ?_⟩
          obtain ⟨ys, ey', yl, m3⟩ := grow (n := n ++ [(j : Int)]) m2 (same_new ht (.tup (n.map V.int ++ [V.int (j : Int)]))) (by rw [upd_same, List.map_append]; rfl)
          refine ⟨ys, ey', by rw [yl, List.length_append, sizeLine_eq]; have := List.length_take_le' j (growN n); omega, ?_⟩
          rw [gl, if_pos hj, ← List.append_assoc]
          exact m3
        · rw [List.length_map, List.length_range, ← gln, List.take_length] at m2
          exact m2
      · rw [al.len, List.take_length] at m
        obtain ⟨sm, ys, ey, aly⟩ := m
        exact ⟨D, _, _, _, rfl, s2.trans sm, ys, ey, aly⟩
    rintro σ H2 ⟨p, o2, o3, o4, rfl, s2, np⟩
    exact ⟨_, rfl, q p H2 s2 np⟩
end
end K6

namespace K6
open PySem PySem.Spec PyProof.Rows L2 Hb St Sq Ow En Zp RZ Rd Xb Da Lo Lg Wa
def tellF (ts : List Tale) (l : Lot) : List Nam := (namsP l.length).filter fun n => decide (uaF ts l n = [])
def deafF (ts : List Tale) (l : Lot) : List Nam := (namsP l.length).filter fun n => !decide (uaF ts l n = [])
def coF (ts : List Tale) (l : Lot) : List Nam := (tellF ts l).filter fun n => !((tellF ts l).any fun m => !decide (m = n) && coarN m n)
def fiF (ts : List Tale) (l : Lot) : List Nam := (deafF ts l).filter fun n => !((deafF ts l).any fun m => !decide (m = n) && coarN n m)
theorem own_tell {ts : List Tale} {l : Lot} (h : ∀ t ∈ ts, Good t) (nd : l.Nodup) (l4 : l.length ≤ 4) : ((List.range l.length).map fun i : Nat => (i : Int) + 1) ∈ tellF ts l := by
  refine List.mem_filter.mpr ⟨nams_own _ l4, decide_eq_true ?_⟩
  unfold uaF
  rw [List.filter_eq_nil_iff]
  intro p hp
  obtain ⟨m1, m2⟩ := Cb.mem_prs.mp (show (p.1, p.2) ∈ _ from hp)
  have g : ∀ i, i < ts.length → Good (ts.getD i []) := fun i hi => by
    rw [List.getD_eq_getElem?_getD, List.getElem?_eq_getElem hi]
    exact h _ (List.getElem_mem hi)
  have ln : l.length = ((List.range l.length).map fun i : Nat => (i : Int) + 1).length := by rw [List.length_map, List.length_range]
  have inj := tone_inj ln (List.Pairwise.map _ (fun a b (h : a ≠ b) (e : (a : Int) + 1 = (b : Int) + 1) => h (by omega)) List.nodup_range)
  have pos := tone_pos ln fun n hn => by
    obtain ⟨i, _, rfl⟩ := List.mem_map.mp hn
    omega
  unfold leftB
  by_cases c : thinT l (ts.getD p.1 []) = thinT l (ts.getD p.2 [])
  · rw [decide_eq_true c]; simp
  · rw [decide_eq_false (ton_two pos inj (g _ (by omega)) (g _ m2) c)]; simp
theorem TlOk.good {t : Tale} (h : TlOk t) : Good t := fun l m => ⟨h.ne l m, h.asc l m⟩
theorem rd_neN {K : PySem.W.Frag} {H : Hp} {Q : VK} {v u : V} {a b : Nam} (ha : LotN H v a) (hb : LotN H u b) (q : Q (.bl (!decide (a = b))) H) : rNeD K v u H Q :=
  ⟨iD a, iD b, ha.dp, hb.dp, (sh_iD a).ok (by decide), (sh_iD b).ok (by decide), by rw [eqv_iD]; exact q⟩
section
variable {P : Program} {w : World} {K : PySem.W.Frag} {mg : Str → Option Value} {base : Heap}
/-! ### telling_namings -/
abbrev s_telling_namings : Stmt := top 33
theorem sc_telling_namings : FnScope ["tales", "bells", "naming"] ["tales", "bells"] (defScope s_telling_namings) := ⟨rfl, rfl, rfl, by decide +kernel, rfl, by decide +kernel, by decide +kernel⟩
structure Good2 (K : PySem.W.Frag) (H : Hp) (v : V) (b : Addr) (ts : List Tale) (l : Lot) : Prop where
  tx : TalesX H K v ts
  ok : ∀ t ∈ ts, TlOk t ∧ ∀ m ∈ t, m.length < 64
  ln : ts.length ≤ 30
  eb : H b = some (.tup (l.map V.str))
  l4 : l.length ≤ 4
  nd : l.Nodup
theorem Good2.same {H H' : Hp} {v : V} {b : Addr} {ts : List Tale} {l : Lot} (g : Good2 K H v b ts l) (s : Same H H') : Good2 K H' v b ts l := ⟨g.tx.same s, g.ok, g.ln, s _ _ g.eb, g.l4, g.nd⟩
def spTell (K : PySem.W.Frag) : Sp := fun vs H Q _ => ∃ (v : V) (b : Addr) (ts : List Tale) (l : Lot), vs = [v, .ref b] ∧ Good2 K H v b ts l ∧ ∀ p H', Same H H' → NamsH H' p (tellF ts l) → Q (.ref p) H'
theorem ok_tell {f : Addr} {fd : FuncData} (F : Fun K "telling_namings" "telling_namings" s_telling_namings f fd) (C_plain_namings : Cl P w K mg base "plain_namings" ["many"] [] 1 (spNams K)) (C_unheard_among : Cl P w K mg base "unheard_among" ["tales", "bells", "naming"] [] 3 (spUA K)) (n_len : mg "len" = none) : FnOk P w K mg base CX0 4 f fd ["tales", "bells"] (spTell K) := by
  refine F.ok sc_telling_namings (fun vs H Q E h => ?_) (fun cdv A outer s H vs Q E hr h => ?_)
  · obtain ⟨_, _, _, _, rfl, _⟩ := h
    rfl
  · obtain ⟨v, b, ts, l, rfl, g, q⟩ := h
    refine ⟨_, (pss_one (ps_ret (pe_lc (own := [("naming", 2)]) (g := gName 2) rfl sc_telling_namings.nd (pi_seq (pe_use C_plain_namings (hr.mono (by decide)) rfl (pa_cons (pe_callB call_len_seq (by rfl) n_len PySem.boot_len (pa_cons (pv 1) pa_nil)) pa_nil))) (blkOk_by (N := ["tales", "bells", "naming"]) (sc := defScope s_telling_namings) (by decide +kernel)) (fun _ _ _ _ _ => pg_name (i := 2) sc_telling_namings.nd rfl (Or.inl rfl)) (fun _ _ _ _ _ => pts_one (pt_not (pt_truthK K rfl (pe_use C_unheard_among (hr.mono (by decide)) rfl (pa_cons (pv 0) (pa_cons (pv 1) (pa_cons (pv 2) pa_nil)))) (fun _ => rfl)))) (fun _ _ _ _ _ => pv 2)))), ?_⟩
    refine ⟨_, rfl, b, _, rfl, .inr (SqT.of g.eb), l.length, by rw [List.length_map]; rfl, g.l4, fun np H1 s1 ⟨its, en, al⟩ => ?_⟩
    have l52 := nams_len l.length g.l4
    refine ⟨np, its, rfl, SqX.lst en, fun J S W z0 D hD => ?_⟩
    refine lc_mf (ds := namsP l.length) W (fun n => decide (uaF ts l n = [])) LotN z0 hD al.len (fun i y n H' ey en s m => ?_) (fun H2 ys s2 e2 al2 => ?_)
    · obtain ⟨n', en', nb, rfl, enb⟩ := al.get ey
      obtain rfl : n' = n := Option.some.inj (en'.symm.trans en)
      have g2 := g.same (s1.trans s)
      refine ⟨rfl, _, rfl, _, rfl, _, rfl, v, b, nb, ts, l, n', rfl, g2.tx, g2.ok, g2.ln, g2.eb, s _ _ enb, (nams_at g.l4 (at_mem en)).1.symm, g2.nd, fun p H3 s3 hp => ?_⟩
      obtain ⟨ps, ep, alp⟩ := hp
      have enb3 := s3 _ _ (s _ _ enb)
      refine ⟨!ps.isEmpty, .inr (.inl ⟨_, SqT.of ep, rfl⟩), ?_⟩
      cases hu : uaF ts l n' with
      | nil =>
        rw [hu] at alp
        cases alp
        exact iteT ⟨_, rfl, mf_yes m hD (fun _ _ _ _ f h => h.on (.fix f)) en (by omega) s3 (decide_eq_true hu) ⟨nb, rfl, enb3⟩⟩
      | cons x r =>
        rw [hu] at alp
        cases alp
        exact iteF (mf_no m (fun _ _ _ _ f h => h.on (.fix f)) en s3 (decide_eq_false (by rw [hu]; exact fun z => by cases z)))
    · exact q D H2 (s1.trans s2) ⟨ys, e2, al2⟩
end
end K6

namespace K6
open PySem PySem.Spec PyProof.Rows L2 Hb St Sq Ow En Zp RZ Rd Xb Da Lo Lg Wa
/-- bells of any data -/
structure Bel (K : PySem.W.Frag) (H : Hp) (u : V) (e : PyData) (l : Lot) : Prop where
  du : Dp K H u e
  su : Sm1 e
  bl : nlD e = true → LotH H u l
  nd : l.Nodup
  l4 : l.length ≤ 4
theorem Bel.same {K : PySem.W.Frag} {H H' : Hp} {u : V} {e : PyData} {l : Lot} (r : Bel K H u e l) (s : Same H H') : Bel K H' u e l := ⟨dp_same s r.du, r.su, fun h => (r.bl h).same s, r.nd, r.l4⟩
/-- a tuple of namings -/
def NamsT (H : Hp) (v : V) (ns : List Nam) : Prop := TalN H v ns
section
variable {P : Program} {w : World} {K : PySem.W.Frag} {mg : Str → Option Value} {base : Heap}
/-! ### coarsest_namings -/
abbrev s_coarsest_namings : Stmt := top 34
theorem sc_coarsest_namings : FnScope ["tales", "bells", "telling", "naming", "other"] ["tales", "bells"] (defScope s_coarsest_namings) := ⟨rfl, rfl, rfl, by decide +kernel, rfl, by decide +kernel, by decide +kernel⟩
def spWish2 (K : PySem.W.Frag) (C D : Addr) (res : List Tale → Lot → List Nam) : Sp := fun vs H Q E => ∃ (v u : V) (d e : PyData) (ts : List Tale) (l : Lot), vs = [v, u] ∧ Tls K H v d ts ∧ Bel K H u e l ∧
  (toldE d = none → nlD e = true → ∀ p H', Same H H' → NamsT H' (.ref p) (res ts l) → Q (.ref p) H') ∧ (∀ k, toldE d = some k → ErrA C H E k) ∧ (toldE d = none → nlD e = false → ErrW D H E (Str.ofString "bells"))
theorem good2 {H : Hp} {v u : V} {d e : PyData} {ts : List Tale} {l : Lot} (t : Tls K H v d ts) (b : Bel K H u e l) (no : toldE d = none) (ne : nlD e = true) : ∃ lb, u = .ref lb ∧ Good2 K H v lb ts l := by
  obtain ⟨lb, rfl, elb⟩ := b.bl ne
  obtain ⟨tx, ok⟩ := t.ok no
  exact ⟨lb, rfl, tx, ok, t.ln, elb, b.l4, b.nd⟩
theorem ok_co {f C D : Addr} {fd : FuncData} (F : Fun K "coarsest_namings" "coarsest_namings" s_coarsest_namings f fd) (C_need_all : Cx_ P w K mg base "need_all" ["tales", "bells"] 6 (spAll K C D)) (C_telling_namings : Cl P w K mg base "telling_namings" ["tales", "bells"] [] 4 (spTell K)) (C_is_coarser : Cl P w K mg base "is_coarser" ["naming", "other"] [] 1 (spCoarse K)) (n_any : mg "any" = none) (n_tuple : mg "tuple" = none) : FnOk P w K mg base (L2.CX P w) 7 f fd ["tales", "bells"] (spWish2 K C D coF) := by
  refine F.okX sc_coarsest_namings (fun vs H Q E h => ?_) (fun cdv A outer s H vs Q E hr h => ?_)
  · obtain ⟨_, _, _, _, _, _, rfl, _⟩ := h
    rfl
  · obtain ⟨v, u, d, e, ts, l, rfl, tl, be, q, q1, q2⟩ := h
    refine ⟨_, (pss_cons (ps_expr (pe_useX C_need_all (hr.mono (by decide)) (fun σ => passAt (takes_of rfl rfl rfl rfl) σ) rfl (pa_cons (pv 0) (pa_cons (pv 1) pa_nil))))
    (pss_cons (ps_set (i := 2) sc_coarsest_namings.nd rfl (Or.inr rfl) (pe_use C_telling_namings (hr.mono (by decide)) rfl (pa_cons (pv 0) (pa_cons (pv 1) pa_nil))))
    (pss_one (ps_ret (pe_callTy call_tuple_of (by rfl) n_tuple (by decide +kernel) (pa_cons (pe_lc (own := [("naming", 3)]) (g := gName 3) rfl sc_coarsest_namings.nd (pi_seq (pv 2)) (blkOk_by (N := ["tales", "bells", "telling", "naming", "other"]) (sc := defScope s_coarsest_namings) (by decide +kernel)) (fun _ _ _ _ _ => pg_name (i := 3) sc_coarsest_namings.nd rfl (Or.inr rfl)) (fun _ _ _ _ _ => pts_one (pt_not (pt_val (pe_callB (id := "any") (r := rAny K) (cr_any rfl) (by rfl) n_any (by decide +kernel) (pa_cons (pe_lc (own := [("other", 4)]) (g := gName 4) rfl sc_coarsest_namings.nd (pi_seqK (K := K) rfl (pv 2)) (blkOk_by (N := ["tales", "bells", "telling", "naming", "other"]) (sc := { kind := .function, names := [((".0" : Str), .local), (("naming" : Str), .cell), (("any" : Str), .globalImplicit), (("telling" : Str), .cell)], isGenerator := false, isCoroutine := false }) (by decide +kernel)) (fun _ _ _ _ _ => pg_name (i := 4) sc_coarsest_namings.nd rfl (Or.inl rfl)) (fun _ _ _ _ _ => pts_nil) (fun _ _ _ _ _ => pe_and (pe_cmpR (r := rNeD K) (op_neD hr.units) (pv 4) (pv 3) (nomark _)) (pe_one (pe_use C_is_coarser (hr.mono (by decide)) rfl (pa_cons (pv 4) (pa_cons (pv 3) pa_nil)))))) pa_nil))))) (fun _ _ _ _ _ => pv 3)) pa_nil)))))), ?_⟩
    refine ⟨_, rfl, _, rfl, v, u, d, e, rfl, tl.dv, tl.sm, be.du, be.su, fun no ne H1 s1 => ?_, q1, q2⟩
    have q := q no ne
    obtain ⟨lb, rfl, g⟩ := good2 (tl.same s1) (be.same s1) no ne
    have l52 := nams_len l.length g.l4
    have l53 : (tellF ts l).length ≤ 52 := Nat.le_trans (List.length_filter_le _ _) l52
    refine ⟨_, rfl, _, rfl, v, lb, ts, l, rfl, g, fun np H2 s2 ⟨its, en, al⟩ => ?_⟩
    have at_ : ∀ {n}, n ∈ tellF ts l → n.length ≤ 100 ∧ ∀ t ∈ n, 0 ≤ t := fun h => by
      obtain ⟨a, b, _⟩ := nams_at g.l4 (List.mem_filter.mp h).1
      have := g.l4
      exact ⟨by omega, b⟩
    refine ⟨_, rfl, np, its, rfl, SqX.lst en, fun J S W z0 D0 hD => ?_⟩
    refine lc_mf (ds := tellF ts l) W (fun n => !((tellF ts l).any fun m => !decide (m = n) && coarN m n)) LotN z0 hD al.len (fun i y n H' ey en1 s m => ?_) (fun H3 ys s3 e3 al3 => ?_)
    · obtain ⟨n', en', hn⟩ := al.get ey
      obtain rfl : n' = n := Option.some.inj (en'.symm.trans en1)
      refine ⟨rfl, _, rfl, np, its, rfl, SqX.lst (s _ _ en), fun J2 S2 W2 z2 D2 hD2 => ?_⟩
      refine lc_mf (ds := tellF ts l) W2 (fun _ => true) (fun _ y o => y = .bl (!decide (o = n') && coarN o n')) z2 hD2 al.len (fun j y2 o H4 ey2 eo s4 m4 => ?_) (fun H4 zs s4 e4 al4 => ?_)
      · obtain ⟨o', eo', ho⟩ := al.get ey2
        obtain rfl : o' = o := Option.some.inj (eo'.symm.trans eo)
        have s24 := s.trans s4
        have ho4 := ho.on (.same s24)
        have hn4 := hn.on (.same s24)
        refine ⟨rfl, _, rfl, _, rfl, rd_neN ho4 hn4 ⟨_, rfl, ?_⟩⟩
        by_cases c : o' = n'
        · rw [decide_eq_true c]
          exact iteF (mf_yes m4 hD2 (fun _ _ _ _ _ h => h) eo (by omega) (Same.refl _) rfl (by rw [decide_eq_true c]; rfl))
        · rw [decide_eq_false c]
          refine iteT ⟨_, rfl, _, rfl, y2, y, o', n', rfl, ho4, hn4, (at_ (at_mem eo)).1, (at_ (at_mem en1)).2, fun H5 s5 => ?_⟩
          exact mf_yes m4 hD2 (fun _ _ _ _ _ h => h) eo (by omega) s5 rfl (by rw [decide_eq_false c]; rfl)
      · rw [Rd.filter_all] at al4
        have ez := bl_map al4
        refine ⟨D2, _, rfl, SqL.of (by rw [← ez]; exact e4), ?_⟩
        rw [any_map]
        refine ⟨_, rfl, ?_⟩
        cases c : (tellF ts l).any fun m => !decide (m = n') && coarN m n' with
        | true => exact iteF (mf_no m (fun _ _ _ _ f h => h.on (.fix f)) en1 s4 (by rw [c]; rfl))
        | false => exact iteT ⟨_, rfl, mf_yes m hD (fun _ _ _ _ f h => h.on (.fix f)) en1 (by omega) s4 (by rw [c]; rfl) ((hn.on (.same s)).on (.same s4))⟩
    · refine ⟨D0, ys, rfl, .inl ⟨SqL.of e3, fun p hp => ?_⟩⟩
      have s5 := same_new hp (.tup ys)
      exact q p _ (((s1.trans s2).trans s3).trans s5) ⟨p, ys, rfl, upd_same, al3.imp fun _ _ r => r.on (.same s5)⟩
end
end K6

namespace K6
open PySem PySem.Spec PyProof.Rows L2 Hb St Sq Ow En Zp RZ Rd Xb Da Lo Lg Wa
section
variable {P : Program} {w : World} {K : PySem.W.Frag} {mg : Str → Option Value} {base : Heap}
/-! ### finest_deaf -/
abbrev s_finest_deaf : Stmt := top 35
theorem sc_finest_deaf : FnScope ["tales", "bells", "deaf", "naming", "other"] ["tales", "bells"] (defScope s_finest_deaf) := ⟨rfl, rfl, rfl, by decide +kernel, rfl, by decide +kernel, by decide +kernel⟩
theorem ok_fi {f C D : Addr} {fd : FuncData} (F : Fun K "finest_deaf" "finest_deaf" s_finest_deaf f fd) (C_need_all : Cx_ P w K mg base "need_all" ["tales", "bells"] 6 (spAll K C D)) (C_plain_namings : Cl P w K mg base "plain_namings" ["many"] [] 1 (spNams K)) (C_unheard_among : Cl P w K mg base "unheard_among" ["tales", "bells", "naming"] [] 3 (spUA K)) (C_is_coarser : Cl P w K mg base "is_coarser" ["naming", "other"] [] 1 (spCoarse K)) (n_any : mg "any" = none) (n_len : mg "len" = none) (n_tuple : mg "tuple" = none) : FnOk P w K mg base (L2.CX P w) 7 f fd ["tales", "bells"] (spWish2 K C D fiF) := by
  refine F.okX sc_finest_deaf (fun vs H Q E h => ?_) (fun cdv A outer s H vs Q E hr h => ?_)
  · obtain ⟨_, _, _, _, _, _, rfl, _⟩ := h
    rfl
  · obtain ⟨v, u, d, e, ts, l, rfl, tl, be, q, q1, q2⟩ := h
    refine ⟨_, (pss_cons (ps_expr (pe_useX C_need_all (hr.mono (by decide)) (fun σ => passAt (takes_of rfl rfl rfl rfl) σ) rfl (pa_cons (pv 0) (pa_cons (pv 1) pa_nil))))
    (pss_cons (ps_set (i := 2) sc_finest_deaf.nd rfl (Or.inr rfl) (pe_lc (own := [("naming", 3)]) (g := gName 3) rfl sc_finest_deaf.nd (pi_seq (pe_use C_plain_namings (hr.mono (by decide)) rfl (pa_cons (pe_callB call_len_seq (by rfl) n_len PySem.boot_len (pa_cons (pv 1) pa_nil)) pa_nil))) (blkOk_by (N := ["tales", "bells", "deaf", "naming", "other"]) (sc := defScope s_finest_deaf) (by decide +kernel)) (fun _ _ _ _ _ => pg_name (i := 3) sc_finest_deaf.nd rfl (Or.inl rfl)) (fun _ _ _ _ _ => pts_one (pt_truthK K rfl (pe_use C_unheard_among (hr.mono (by decide)) rfl (pa_cons (pv 0) (pa_cons (pv 1) (pa_cons (pv 3) pa_nil)))) (fun _ => rfl))) (fun _ _ _ _ _ => pv 3)))
    (pss_one (ps_ret (pe_callTy call_tuple_of (by rfl) n_tuple (by decide +kernel) (pa_cons (pe_lc (own := [("naming", 3)]) (g := gName 3) rfl sc_finest_deaf.nd (pi_seq (pv 2)) (blkOk_by (N := ["tales", "bells", "deaf", "naming", "other"]) (sc := defScope s_finest_deaf) (by decide +kernel)) (fun _ _ _ _ _ => pg_name (i := 3) sc_finest_deaf.nd rfl (Or.inr rfl)) (fun _ _ _ _ _ => pts_one (pt_not (pt_val (pe_callB (id := "any") (r := rAny K) (cr_any rfl) (by rfl) n_any (by decide +kernel) (pa_cons (pe_lc (own := [("other", 4)]) (g := gName 4) rfl sc_finest_deaf.nd (pi_seqK (K := K) rfl (pv 2)) (blkOk_by (N := ["tales", "bells", "deaf", "naming", "other"]) (sc := { kind := .function, names := [((".0" : Str), .local), (("naming" : Str), .cell), (("any" : Str), .globalImplicit), (("deaf" : Str), .cell)], isGenerator := false, isCoroutine := false }) (by decide +kernel)) (fun _ _ _ _ _ => pg_name (i := 4) sc_finest_deaf.nd rfl (Or.inl rfl)) (fun _ _ _ _ _ => pts_nil) (fun _ _ _ _ _ => pe_and (pe_cmpR (r := rNeD K) (op_neD hr.units) (pv 4) (pv 3) (nomark _)) (pe_one (pe_use C_is_coarser (hr.mono (by decide)) rfl (pa_cons (pv 3) (pa_cons (pv 4) pa_nil)))))) pa_nil))))) (fun _ _ _ _ _ => pv 3)) pa_nil)))))), ?_⟩
    refine ⟨_, rfl, _, rfl, v, u, d, e, rfl, tl.dv, tl.sm, be.du, be.su, fun no ne H1 s1 => ?_, q1, q2⟩
    have q := q no ne
    obtain ⟨lb, rfl, g⟩ := good2 (tl.same s1) (be.same s1) no ne
    have l52 := nams_len l.length g.l4
    have l53 : (deafF ts l).length ≤ 52 := Nat.le_trans (List.length_filter_le _ _) l52
    refine ⟨_, rfl, lb, _, rfl, .inr (SqT.of g.eb), l.length, by rw [List.length_map]; rfl, g.l4, fun p0 H2a s2a ⟨its0, en0, al0⟩ => ?_⟩
    refine ⟨p0, its0, rfl, SqX.lst en0, fun J S W z0 np hD => ?_⟩
    refine lc_mf (ds := namsP l.length) W (fun n => !decide (uaF ts l n = [])) LotN z0 hD al0.len (fun i y n H' ey en s m => ?_) (fun H2 its s2b en al => ?_)
    · obtain ⟨n', en', nb, rfl, enb⟩ := al0.get ey
      obtain rfl : n' = n := Option.some.inj (en'.symm.trans en)
      have g2 := g.same (s2a.trans s)
      refine ⟨rfl, _, rfl, _, rfl, _, rfl, v, lb, nb, ts, l, n', rfl, g2.tx, g2.ok, g2.ln, g2.eb, s _ _ enb, (nams_at g.l4 (at_mem en)).1.symm, g2.nd, fun p H3 s3 hp => ?_⟩
      obtain ⟨ps, ep, alp⟩ := hp
      have enb3 := s3 _ _ (s _ _ enb)
      refine ⟨!ps.isEmpty, .inr (.inl ⟨_, SqT.of ep, rfl⟩), ?_⟩
      cases hu : uaF ts l n' with
      | nil =>
        rw [hu] at alp
        cases alp
        exact iteF (mf_no m (fun _ _ _ _ f h => h.on (.fix f)) en s3 (by rw [decide_eq_true hu]; rfl))
      | cons x r =>
        rw [hu] at alp
        cases alp
        exact iteT ⟨_, rfl, mf_yes m hD (fun _ _ _ _ f h => h.on (.fix f)) en (by omega) s3 (by rw [decide_eq_false (by rw [hu]; exact fun z => by cases z)]; rfl) ⟨nb, rfl, enb3⟩⟩
    have s2 := s2a.trans s2b
    have at_ : ∀ {n}, n ∈ deafF ts l → n.length ≤ 100 ∧ ∀ t ∈ n, 0 ≤ t := fun h => by
      obtain ⟨a, b, _⟩ := nams_at g.l4 (List.mem_filter.mp h).1
      have := g.l4
      exact ⟨by omega, b⟩
    refine ⟨_, rfl, np, its, rfl, SqX.lst en, fun J S W z0 D0 hD => ?_⟩
    refine lc_mf (ds := deafF ts l) W (fun n => !((deafF ts l).any fun m => !decide (m = n) && coarN n m)) LotN z0 hD al.len (fun i y n H' ey en1 s m => ?_) (fun H3 ys s3 e3 al3 => ?_)
    · obtain ⟨n', en', hn⟩ := al.get ey
      obtain rfl : n' = n := Option.some.inj (en'.symm.trans en1)
      refine ⟨rfl, _, rfl, np, its, rfl, SqX.lst (s _ _ en), fun J2 S2 W2 z2 D2 hD2 => ?_⟩
      refine lc_mf (ds := deafF ts l) W2 (fun _ => true) (fun _ y o => y = .bl (!decide (o = n') && coarN n' o)) z2 hD2 al.len (fun j y2 o H4 ey2 eo s4 m4 => ?_) (fun H4 zs s4 e4 al4 => ?_)
      · obtain ⟨o', eo', ho⟩ := al.get ey2
        obtain rfl : o' = o := Option.some.inj (eo'.symm.trans eo)
        have s24 := s.trans s4
        have ho4 := ho.on (.same s24)
        have hn4 := hn.on (.same s24)
        refine ⟨rfl, _, rfl, _, rfl, rd_neN ho4 hn4 ⟨_, rfl, ?_⟩⟩
        by_cases c : o' = n'
        · rw [decide_eq_true c]
          exact iteF (mf_yes m4 hD2 (fun _ _ _ _ _ h => h) eo (by omega) (Same.refl _) rfl (by rw [decide_eq_true c]; rfl))
        · rw [decide_eq_false c]
          refine iteT ⟨_, rfl, _, rfl, y, y2, n', o', rfl, hn4, ho4, (at_ (at_mem en1)).1, (at_ (at_mem eo)).2, fun H5 s5 => ?_⟩
          exact mf_yes m4 hD2 (fun _ _ _ _ _ h => h) eo (by omega) s5 rfl (by rw [decide_eq_false c]; rfl)
      · rw [Rd.filter_all] at al4
        have ez := bl_map al4
        refine ⟨D2, _, rfl, SqL.of (by rw [← ez]; exact e4), ?_⟩
        rw [any_map]
        refine ⟨_, rfl, ?_⟩
        cases c : (deafF ts l).any fun m => !decide (m = n') && coarN n' m with
        | true => exact iteF (mf_no m (fun _ _ _ _ f h => h.on (.fix f)) en1 s4 (by rw [c]; rfl))
        | false => exact iteT ⟨_, rfl, mf_yes m hD (fun _ _ _ _ f h => h.on (.fix f)) en1 (by omega) s4 (by rw [c]; rfl) ((hn.on (.same s)).on (.same s4))⟩
    · refine ⟨D0, ys, rfl, .inl ⟨SqL.of e3, fun p hp => ?_⟩⟩
      have s5 := same_new hp (.tup ys)
      exact q p _ (((s1.trans s2).trans s3).trans s5) ⟨p, ys, rfl, upd_same, al3.imp fun _ _ r => r.on (.same s5)⟩
/-! ### fewest_tones -/
abbrev s_fewest_tones : Stmt := top 36
theorem sc_fewest_tones : FnScope ["tales", "bells", "naming"] ["tales", "bells"] (defScope s_fewest_tones) := ⟨rfl, rfl, rfl, by decide +kernel, rfl, by decide +kernel, by decide +kernel⟩
def FewI (T : List Nam) (m : Int) : Prop := (∃ n ∈ T, mxI n = m) ∧ ∀ n ∈ T, m ≤ mxI n
def spFew (K : PySem.W.Frag) (C D : Addr) : Sp := fun vs H Q E => ∃ (v u : V) (d e : PyData) (ts : List Tale) (l : Lot), vs = [v, u] ∧ Tls K H v d ts ∧ Bel K H u e l ∧
  (toldE d = none → nlD e = true → ∀ m H', Same H H' → FewI (tellF ts l) m → Q (.int m) H') ∧ (∀ k, toldE d = some k → ErrA C H E k) ∧ (toldE d = none → nlD e = false → ErrW D H E (Str.ofString "bells"))
theorem ok_few {f C D : Addr} {fd : FuncData} (F : Fun K "fewest_tones" "fewest_tones" s_fewest_tones f fd) (C_need_all : Cx_ P w K mg base "need_all" ["tales", "bells"] 6 (spAll K C D)) (C_telling_namings : Cl P w K mg base "telling_namings" ["tales", "bells"] [] 4 (spTell K)) (n_max : mg "max" = none) (n_min : mg "min" = none) : FnOk P w K mg base (L2.CX P w) 7 f fd ["tales", "bells"] (spFew K C D) := by
  refine F.okX sc_fewest_tones (fun vs H Q E h => ?_) (fun cdv A outer s H vs Q E hr h => ?_)
  · obtain ⟨_, _, _, _, _, _, rfl, _⟩ := h
    rfl
  · obtain ⟨v, u, d, e, ts, l, rfl, tl, be, q, q1, q2⟩ := h
    refine ⟨_, (pss_cons (ps_expr (pe_useX C_need_all (hr.mono (by decide)) (fun σ => passAt (takes_of rfl rfl rfl rfl) σ) rfl (pa_cons (pv 0) (pa_cons (pv 1) pa_nil))))
    (pss_one (ps_ret (pe_callB (cr_min rfl) (by rfl) n_min (by decide +kernel) (pa_cons (pe_lc (own := [("naming", 2)]) (g := gName 2) rfl sc_fewest_tones.nd (pi_seq (pe_use C_telling_namings (hr.mono (by decide)) rfl (pa_cons (pv 0) (pa_cons (pv 1) pa_nil)))) (blkOk_by (N := ["tales", "bells", "naming"]) (sc := defScope s_fewest_tones) (by decide +kernel)) (fun _ _ _ _ _ => pg_name (i := 2) sc_fewest_tones.nd rfl (Or.inl rfl)) (fun _ _ _ _ _ => pts_nil) (fun _ _ _ _ _ => pe_callBK (r := rMaxTDf K) (cr_maxTDf rfl hr.units) (by rfl) n_max PyProof.Rows.boot_max (pa_cons (pv 2) pa_nil) (pk_cons pe_int pk_nil))) pa_nil))))), ?_⟩
    refine ⟨_, rfl, _, rfl, v, u, d, e, rfl, tl.dv, tl.sm, be.du, be.su, fun no ne H1 s1 => ?_, q1, q2⟩
    have q := q no ne
    obtain ⟨lb, rfl, g⟩ := good2 (tl.same s1) (be.same s1) no ne
    have l52 := nams_len l.length g.l4
    have l53 : (tellF ts l).length ≤ 52 := Nat.le_trans (List.length_filter_le _ _) l52
    refine ⟨_, rfl, _, rfl, v, lb, ts, l, rfl, g, fun np H2 s2 ⟨its, en, al⟩ => ?_⟩
    refine ⟨np, its, rfl, SqX.lst en, fun J S W z0 D0 hD => ?_⟩
    refine lc_mf (ds := tellF ts l) W (fun _ => true) (fun _ y n => y = .int (mxI n)) z0 hD al.len (fun i y n H' ey en1 s m => ?_) (fun H3 ys s3 e3 al3 => ?_)
    · obtain ⟨n', en', nb, rfl, enb⟩ := al.get ey
      obtain rfl : n' = n := Option.some.inj (en'.symm.trans en1)
      obtain ⟨_, hn0, _⟩ := nams_at g.l4 (List.mem_filter.mp (at_mem en1)).1
      refine ⟨rfl, _, rfl, ?_⟩
      dsimp only [tNil, tCons, tC]
      refine rd_mx (s _ _ enb) hn0 ?_
      exact mf_yes m hD (fun _ _ _ _ _ h => h) en1 (by omega) (Same.refl _) rfl rfl
    · rw [Rd.filter_all] at al3
      have ez := al3.map_eq (f := fun n => V.int (mxI n)) fun _ _ h => h
      rw [show ((tellF ts l).map fun n => V.int (mxI n)) = ((tellF ts l).map mxI).map V.int by rw [List.map_map]; rfl] at ez
      rw [ez] at e3
      have ow := own_tell (fun t ht => (g.ok t ht).1.good) g.nd g.l4
      refine ⟨D0, _, rfl, SqL.of e3, by rw [List.length_map]; exact List.length_pos_of_mem ow, fun m hm hle => ?_⟩
      obtain ⟨n, hn, e⟩ := List.mem_map.mp hm
      exact q m _ ((s1.trans s2).trans s3) ⟨⟨n, hn, e⟩, fun k hk => hle _ (List.mem_map.mpr ⟨k, hk, rfl⟩)⟩
end
end K6

namespace K6
open PySem PySem.Spec PyProof.Rows L2 Hb St Sq Ow En Zp RZ Rd Xb Da Lo Lg Wa
theorem inV_ints (x : Int) (xs : List Int) : inV (.int x) (xs.map V.int) = decide (x ∈ xs) := by
  unfold inV
  rw [List.any_map]
  induction xs with
  | nil => simp
  | cons y r ih =>
    rw [List.any_cons, ih]
    have e : ((fun z => eqV z (V.int x)) ∘ V.int) y = decide (x = y) := by
      show decide (_ = _) = _
      exact decide_eq_decide.mpr ⟨fun h => h.symm, fun h => h.symm⟩
    rw [e]
    simp [List.mem_cons]
theorem flat_ints (xs : List Int) : (xs.map V.int).all flatV = true := by rw [List.all_map]; exact List.all_eq_true.mpr fun _ _ => rfl
theorem eqv_nilI (f : List Int) : PyData.eqv (.list (f.map PyData.int)) (.list []) = decide (f = []) := by
  cases f <;> rfl
theorem tone_at : ∀ {bs : Lot} {ns : List Int} {i : Nat} {x : Str} {n : Int}, bs.Nodup → bs[i]? = some x → ns[i]? = some n → tone bs ns x = n
  | [], _, i, x, n, _, h, _ => by simp at h
  | b :: bs, [], i, x, n, _, _, h => by simp at h
  | b :: bs, m :: ns, 0, x, n, _, h, k => by
    rw [List.getElem?_cons_zero] at h k
    cases h
    cases k
    unfold tone
    rw [if_pos rfl]
  | b :: bs, m :: ns, i + 1, x, n, nd, h, k => by
    rw [List.getElem?_cons_succ] at h k
    obtain ⟨n1, n2⟩ := List.nodup_cons.mp nd
    unfold tone
    rw [if_neg fun (z : b = x) => n1 (by rw [z]; exact List.mem_of_getElem? h)]
    exact tone_at n2 h k
theorem tone_out : ∀ {bs : Lot} {ns : List Int} {x : Str}, x ∉ bs → tone bs ns x = 0
  | [], _, _, _ => by unfold tone; rfl
  | b :: bs, [], _, _ => by unfold tone; rfl
  | b :: bs, n :: ns, x, h => by
    unfold tone
    rw [if_neg fun (z : b = x) => h (by rw [z]; exact List.mem_cons_self)]
    exact tone_out fun z => h (List.mem_cons_of_mem _ z)
/-- what the law gathers of a lot is what is heard of it -/
theorem ton_of {l m : Lot} {ns hs ys : List Int} (nd : l.Nodup) (ll : l.length = ns.length) (hm : ∀ y, y ∈ hs ↔ ∃ (i : Nat) (x : Str), l[i]? = some x ∧ x ∈ m ∧ ns[i]? = some y ∧ 0 < y) (hn : hs.Nodup) (pm : ys.Perm hs) (so : ys.Pairwise (· ≤ ·)) : ys = tonL (tone l ns) m := by
  have nds := pm.nodup_iff.mpr hn
  have asc : ys.Pairwise (· < ·) := by
    have := so.and nds
    exact this.imp fun ⟨a, b⟩ => by omega
  refine lotI_eq asc fun y => pm.mem_iff.trans ((hm y).trans ?_)
  rw [List.mem_map]
  constructor
  · rintro ⟨i, x, e1, h1, e2, p⟩
    have := tone_at nd e1 e2
    exact ⟨x, List.mem_filter.mpr ⟨h1, decide_eq_true (by rw [this]; exact p)⟩, this⟩
  · rintro ⟨x, hx, rfl⟩
    obtain ⟨h1, h2⟩ := List.mem_filter.mp hx
    have p := of_decide_eq_true h2
    have xi : x ∈ l := Decidable.byContradiction fun z => by rw [tone_out z] at p; exact absurd p (by decide)
    obtain ⟨i, hi⟩ := List.mem_iff_getElem?.mp xi
    have li : i < ns.length := by have := (List.getElem?_eq_some_iff.mp hi).1; omega
    have e2 : ns[i]? = some ns[i] := List.getElem?_eq_getElem li
    exact ⟨i, x, hi, h1, by rw [tone_at nd hi e2]; exact e2, p⟩
section
variable {P : Program} {w : World} {K : PySem.W.Frag} {mg : Str → Option Value} {base : Heap}
/-! ### _law_tones -/
abbrev s__law_tones : Stmt := top 44
theorem sc__law_tones : FnScope ["tale", "bells", "naming", "found", "lot", "heard", "at", "name"] ["tale", "bells", "naming"] (defScope s__law_tones) := ⟨rfl, rfl, rfl, by decide +kernel, rfl, by decide +kernel, by decide +kernel⟩
def spLTones (K : PySem.W.Frag) : Sp := fun vs H Q _ => ∃ (v : V) (b n : Addr) (t : Tale) (l : Lot) (ns : List Int), vs = [v, .ref b, .ref n] ∧ TalH H v t ∧ TlOk t ∧ H b = some (.tup (l.map V.str)) ∧ H n = some (.tup (ns.map V.int)) ∧ l.length = ns.length ∧ l.Nodup ∧ l.length ≤ 4 ∧ ∀ p H', Same H H' → TalN H' (.ref p) (tonT (tone l ns) t) → Q (.ref p) H'
theorem ok_ltones {f : Addr} {fd : FuncData} (F : Fun K "_law_tones" "_law_tones" s__law_tones f fd) (n_enumerate : mg "enumerate" = none) (n_sorted : mg "sorted" = none) (n_tuple : mg "tuple" = none) : FnOk P w K mg base CX0 1 f fd ["tale", "bells", "naming"] (spLTones K) := by
  refine F.ok sc__law_tones (fun vs H Q E h => ?_) (fun cdv A outer s H vs Q E hr h => ?_)
  · obtain ⟨_, _, _, _, _, _, rfl, _⟩ := h
    rfl
  · obtain ⟨v, b, n, t, l, ns, rfl, ⟨a, its, rfl, ea, al⟩, ok, eb, en, ll, nd, l4, q⟩ := h
    refine ⟨_, (pss_cons (ps_set (i := 3) sc__law_tones.nd rfl (Or.inl rfl) (pe_lst pa_nil))
    (Evl.pss_cut (ps_for PassesOwn.never rfl (pi_seq (pv 0)) (pg_name (i := 4) sc__law_tones.nd rfl (Or.inl rfl))
      (pss_cons (ps_set (i := 5) sc__law_tones.nd rfl (Or.inl rfl) (pe_lst pa_nil))
    (Evl.pss_cut (ps_for PassesOwn.never rfl (pi_enumT (by rfl) n_enumerate (pa_cons (pv 1) pa_nil)) (pg_tup rfl (pgs_cons (pg_name (i := 6) sc__law_tones.nd rfl (Or.inl rfl)) (pgs_cons (pg_name (i := 7) sc__law_tones.nd rfl (Or.inl rfl)) pgs_nil)))
      (pss_one (ps_if (PW.pt (pw_and (pt_cmpR (r := rIn K false) op_in_seq (pv 7) (pv 4) rfl) (pw_and (pt_cmpR op_gt (pe_ix ix_tup (pv 2) (pv 6) (fun _ _ => rfl)) pe_int (nomark _)) (pw_and1 (pt_cmpR (r := rIn K true) op_notIn_seq (pe_ix ix_tup (pv 2) (pv 6) (fun _ _ => rfl)) (pv 5) rfl))))) (pss_one (ps_expr (pe_bm PySem.F.plainAttrs_list PySem.F.slot_list_append PySem.F.type_list_append mt_append (pv 5) (pa_cons (pe_ix ix_tup (pv 2) (pv 6) (fun _ _ => rfl)) pa_nil)))) pss_nil)))
    (pss_one (ps_if (pt_cmpR (op_neD hr.units) (pv 5) (pe_lst pa_nil) (nomark _)) (pss_one (ps_expr (pe_bm PySem.F.plainAttrs_list PySem.F.slot_list_append PySem.F.type_list_append mt_append (pv 3) (pa_cons (pe_callTy call_tuple_of (by rfl) n_tuple (by decide +kernel) (pa_cons (pe_callB cr_sorted (by rfl) n_sorted (by decide +kernel) (pa_cons (pv 5) pa_nil)) pa_nil)) pa_nil)))) pss_nil)))))
    (pss_one (ps_ret (pe_callTy call_tuple_of (by rfl) n_tuple (by decide +kernel) (pa_cons (pv 3) pa_nil)))))), ?_⟩
    refine ⟨by show 0 ≤ sizeLine; decide, fun F kF => ?_⟩
    have s1 := same_new kF (.lst [])
    have eF : upd H F (.lst []) F = some (.lst []) := upd_same
    have F0 := kF
    generalize upd H F (.lst []) = H1 at s1 eF ⊢
    clear kF
    have lt := ok.len
    let S : L2.St → Prop := fun σ => ∃ o4 o5 o6 o7, σ = [some (.ref a), some (.ref b), some (.ref n), some (.ref F), o4, o5, o6, o7]
    let Inv : Hp → Nat → Prop := fun H' i => Same H H' ∧ ∃ ys, H' F = some (.lst ys) ∧ All2 (LotN H') ys (tonT (tone l ns) (t.take i))
    refine ⟨fun σ H' => S σ ∧ Inv H' t.length, ?_, ?_⟩
    · refine ⟨_, rfl, a, its, rfl, SqX.tup (s1 _ _ ea), fun J S2 W z0 => ?_⟩
      refine for_sq W (fun i σ H' => S σ ∧ Inv H' i) ⟨⟨none, none, none, none, rfl⟩, s1, [], eF, .nil⟩ (fun i σ H' ⟨_, s, _⟩ => W.keep (fun o e => by
        rw [s1 _ _ ea] at e
        cases e
        exact s _ _ ea) z0) ?_ ?_
      · rintro i σ H2 x ex ⟨⟨o4, o5, o6, o7, rfl⟩, s2, ys, eF2, aly⟩
        obtain ⟨m, em, lb, rfl, elb⟩ := al.get ex
        have lm := ok.lot m (at_mem em)
        refine ⟨by show 0 ≤ sizeLine; decide, fun D kD => ?_⟩
        have D0 : H D = none := by
          cases h : H D with
          | none => rfl
          | some o => rw [s2 _ _ h] at kD; cases kD
        have FD : F ≠ D := ne_of_none eF2 kD
        have s3 := s2.trans (same_new kD (.lst []))
        have eF3 := (same_new kD (.lst [])) _ _ eF2
        have aly3 := aly.imp fun _ _ r => r.on (.same (same_new kD (.lst [])))
        have eD : upd H2 D (.lst []) D = some (.lst (([] : List Int).map V.int)) := upd_same
        generalize upd H2 D (.lst []) = H3 at s3 eF3 eD aly3 ⊢
        clear kD aly eF2
        have keepF : ∀ {H'}, Kept D H3 H' → H' F = some (.lst ys) := fun k => k _ _ eF3 FD
        let Iv : Hp → Nat → Prop := fun H' j => Kept D H3 H' ∧ Same H H' ∧ ∃ hs : List Int, H' D = some (.lst (hs.map V.int)) ∧ hs.Nodup ∧ hs.length ≤ j ∧ ∀ y, y ∈ hs ↔ ∃ (i : Nat) (x : Str), i < j ∧ l[i]? = some x ∧ x ∈ m ∧ ns[i]? = some y ∧ 0 < y
        refine ⟨fun σ H' => (∃ o6 o7, σ = [some (.ref a), some (.ref b), some (.ref n), some (.ref F), some (.ref lb), some (.ref D), o6, o7]) ∧ Iv H' l.length, ?_, ?_⟩
        · refine ⟨_, rfl, b, rfl, ⟨_, SqT.of (s3 _ _ eb)⟩, ?_⟩
          refine for_en en_tup (fun j σ H' => (∃ o6 o7, σ = [some (.ref a), some (.ref b), some (.ref n), some (.ref F), some (.ref lb), some (.ref D), o6, o7]) ∧ Iv H' j) ⟨⟨_, _, rfl⟩, Kept.refl _ _, s3, [], eD, .nil, Nat.le_refl _, fun y => ⟨fun h => (by cases h), fun ⟨i, x, h, _⟩ => absurd h (Nat.not_lt_zero i)⟩⟩ (fun j σ H' ⟨_, _, s, _⟩ => SqT.of (s _ _ eb)) ?_ ?_
          · rintro j σ H4 x T ey ⟨⟨o6, o7, rfl⟩, k4, s4, hs, eD4, hn, hl, hm⟩ hT
            obtain ⟨nm, enm, rfl⟩ := str_at ey
            have hj := (List.getElem?_eq_some_iff.mp enm).1
            have s5 := same_new hT (.tup [.int (j : Nat), V.str nm])
            refine ⟨T, _, rfl, SqT.of upd_same, rfl, _, _, rfl, _, _, rfl, rfl, ?_⟩
            have s4 := s4.trans s5
            have k4 : Kept D H3 (upd H4 T (.tup [.int (j : Nat), V.str nm])) := k4.trans fun b o e _ => s5 b o e
            have eD4 := s5 _ _ eD4
            generalize upd H4 T (.tup [.int (j : Nat), V.str nm]) = H5 at s4 k4 eD4 ⊢
            obtain ⟨tn, etn⟩ : ∃ tn, ns[j]? = some tn := ⟨_, List.getElem?_eq_getElem (by omega)⟩
            have eix : atI (ns.map V.int) (j : Nat) = some (.int tn) := atI_nat (by rw [List.getElem?_map, etn]; rfl)
            have en5 := s4 _ _ en
            have no : ¬ (nm ∈ m ∧ 0 < tn ∧ tn ∉ hs) → Iv H5 (j + 1) := fun c => ⟨k4, s4, hs, eD4, hn, by omega, fun y => (hm y).trans ⟨fun ⟨i, x, h1, h2⟩ => ⟨i, x, by omega, h2⟩, fun ⟨i, x, h1, h2, h3, h4, h5⟩ => by
              rcases Nat.lt_or_ge i j with g | g
              · exact ⟨i, x, g, h2, h3, h4, h5⟩
              · obtain rfl : i = j := by omega
                rw [enm] at h2
                cases h2
                rw [etn] at h4
                cases h4
                have : tn ∈ hs := Decidable.byContradiction fun z => c ⟨h3, h5, z⟩
                exact (hm tn).mp this⟩⟩
            refine ⟨_, rfl, _, rfl, in_strs (SqX.tup (s4 _ _ elb)) ⟨_, rfl, iteD (fun c1 => ?_) fun c1 => ⟨⟨_, _, rfl⟩, no fun z => c1 z.1⟩⟩⟩
            refine ⟨_, rfl, _, rfl, n, _, (j : Nat), _, rfl, rfl, SqT.of en5, eix, _, _, rfl, rfl, _, rfl, iteD (fun c2 => ?_) fun c2 => ⟨⟨_, _, rfl⟩, no fun z => c2 z.2.1⟩⟩
            refine ⟨_, rfl, _, rfl, n, _, (j : Nat), _, rfl, rfl, SqT.of en5, eix, _, rfl, D, _, rfl, .inl (SqL.of eD4), rfl, flat_ints hs, _, rfl, ?_⟩
            rw [inV_ints, if_pos rfl]
            by_cases c3 : tn ∈ hs
            · rw [decide_eq_true c3]
              exact iteF ⟨⟨_, _, rfl⟩, no fun z => z.2.2 c3⟩
            · rw [decide_eq_false c3]
              refine iteT ⟨_, rfl, .inl ⟨rfl, _, SqL.of eD4⟩, _, rfl, _, rfl, n, _, (j : Nat), _, rfl, rfl, SqT.of en5, eix, D, _, _, rfl, rfl, eD4, by rw [List.length_map, sizeLine_eq]; omega, ⟨_, _, rfl⟩, k4.trans kept_upd, same_off s4 D0, hs ++ [tn], by rw [upd_same, List.map_append]; rfl, ?_, by rw [List.length_append]; show _ + 1 ≤ _; omega, fun y => ?_⟩
              · exact List.nodup_append.mpr ⟨hn, List.pairwise_singleton _ _, fun a ha b hb e => c3 (by rw [← List.mem_singleton.mp hb, ← e]; exact ha)⟩
              · rw [List.mem_append, List.mem_singleton, hm y]
                constructor
                · rintro (⟨i, x, h1, h2⟩ | rfl)
                  · exact ⟨i, x, by omega, h2⟩
                  · exact ⟨j, nm, by omega, enm, c1, etn, c2⟩
                · rintro ⟨i, x, h1, h2, h3, h4, h5⟩
                  rcases Nat.lt_or_ge i j with g | g
                  · exact .inl ⟨i, x, g, h2, h3, h4, h5⟩
                  · obtain rfl : i = j := by omega
                    rw [etn] at h4
                    exact .inr (Option.some.inj h4).symm
          · rintro σ H4 ⟨st, iv⟩
            rw [List.length_map] at iv
            exact ⟨st, iv⟩
        rintro σ H4 ⟨⟨o6', o7', rfl⟩, k4, s4, hs, eD4, hn, hl, hm⟩
        have hm' : ∀ y, y ∈ hs ↔ ∃ (i : Nat) (x : Str), l[i]? = some x ∧ x ∈ m ∧ ns[i]? = some y ∧ 0 < y := fun y => (hm y).trans ⟨fun ⟨i, x, _, h⟩ => ⟨i, x, h⟩, fun ⟨i, x, h1, h⟩ => ⟨i, x, (List.getElem?_eq_some_iff.mp h1).1, h1, h⟩⟩
        have eF4 := keepF k4
        have aly4 : All2 (LotN H4) ys (tonT (tone l ns) (t.take i)) := aly3.imp fun _ _ r => r.on fun b xs e => k4 _ _ e fun z => by rw [z, eD] at e; cases e
        have tk : tonT (tone l ns) (t.take (i + 1)) = tonT (tone l ns) (t.take i) ++ tonT (tone l ns) [m] := by
          unfold tonT
          rw [List.take_add_one, em, List.map_append, List.filter_append]; rfl
        refine ⟨_, rfl, by show 0 ≤ sizeLine; decide, fun p5 k5 => ?_⟩
        have s5 := same_new k5 (.lst [])
        have e5 : upd H4 p5 (.lst []) p5 = some (.lst []) := upd_same
        generalize upd H4 p5 (.lst []) = H5 at s5 e5 ⊢
        refine ⟨.list (hs.map .int), .list [], .lst (SqL.of (s5 _ _ eD4)) (dp_ints hs), .lst (SqL.of e5) .nil, (sh_lst (n := 0) fun x hx => sh_int 0 _).ok (by decide), by decide, _, rfl, ?_⟩
        rw [eqv_nilI]
        by_cases c : hs = []
        · rw [decide_eq_true c]
          have : tonT (tone l ns) [m] = [] := by
            have e : tonL (tone l ns) m = [] := by
              have := ton_of nd ll hm' hn (List.Perm.refl _) (by rw [c]; exact .nil)
              rw [← this, c]
            unfold tonT
            rw [List.map_singleton, e]; rfl
          refine iteF ⟨⟨_, _, _, _, rfl⟩, s4.trans s5, ys, s5 _ _ eF4, ?_⟩
          rw [tk, this, List.append_nil]
          exact aly4.imp fun _ _ r => r.on (.same s5)
        · rw [decide_eq_false c]
          refine iteT ⟨_, rfl, .inl ⟨rfl, _, SqL.of (s5 _ _ eF4)⟩, _, rfl, D, hs, rfl, SqL.of (s5 _ _ eD4), by omega, fun zs p6 pm so k6 => ?_⟩
          have ez := ton_of nd ll hm' hn pm so
          have s6 := same_new k6 (.lst (zs.map V.int))
          refine ⟨p6, _, rfl, .inl ⟨SqL.of upd_same, fun p7 k7 => ?_⟩⟩
          have s7 := s6.trans (same_new k7 (.tup (zs.map V.int)))
          have e7 : upd (upd H5 p6 (.lst (zs.map V.int))) p7 (.tup (zs.map V.int)) p7 = some (.tup (zs.map V.int)) := upd_same
          generalize upd (upd H5 p6 (.lst (zs.map V.int))) p7 (.tup (zs.map V.int)) = H7 at s7 e7 ⊢
          have s57 := s5.trans s7
          have eF7 := s57 _ _ eF4
          have ly := aly4.len
          have lty : (tonT (tone l ns) (t.take i)).length ≤ 100 := by
            unfold tonT
            refine Nat.le_trans (List.length_filter_le _ _) ?_
            rw [List.length_map, List.length_take]; omega
          refine ⟨F, ys, _, rfl, rfl, eF7, by rw [sizeLine_eq]; omega, ⟨_, _, _, _, rfl⟩, same_off (s4.trans s57) F0, _, upd_same, ?_⟩
          have : tonT (tone l ns) [m] = [zs] := by
            unfold tonT
            rw [List.map_singleton, ← ez, List.filter_cons_of_pos]
            · rfl
            · have : zs ≠ [] := fun z => c (by rw [z] at pm; exact pm.symm.eq_nil)
              simp [this]
          rw [tk, this]
          have fx : Fix H7 (upd H7 F (.lst (ys ++ [.ref p7]))) := Fix.lst eF7
          exact (aly4.imp fun _ _ r => (r.on (.same s57)).on (.fix fx)).app (.cons (LotN.on ⟨p7, rfl, e7⟩ (.fix fx)) .nil)
      · rintro σ H2 ⟨st, iv⟩
        rw [al.len] at iv
        exact ⟨st, iv⟩
    rintro σ H2 ⟨⟨o4, o5, o6, o7, rfl⟩, s2, ys, eF2, aly⟩
    rw [List.take_length] at aly
    refine ⟨_, rfl, F, ys, rfl, .inl ⟨SqL.of eF2, fun p hp => ?_⟩⟩
    have s3 := same_new hp (.tup ys)
    exact q p _ (s2.trans s3) ⟨p, ys, rfl, upd_same, aly.imp fun _ _ r => r.on (.same s3)⟩
end
end K6

namespace K6
open PySem PySem.Spec PyProof.Rows L2 Hb St Sq Ow En Zp RZ Rd Xb Da Lo Lg Wa
theorem idxN_at : ∀ {ts : List Int} {t : Int}, t ∈ ts → ts[idxN ts t]? = some t ∧ ∀ m, m < idxN ts t → ts[m]? ≠ some t
  | [], t, h => by cases h
  | x :: r, t, h => by
    rw [idxN_cons]
    by_cases c : x = t
    · rw [if_pos c, c]
      exact ⟨rfl, fun m hm => absurd hm (Nat.not_lt_zero m)⟩
    · rw [if_neg c]
      obtain ⟨h1, h2⟩ := idxN_at (ts := r) ((List.mem_cons.mp h).resolve_left fun e => c e.symm)
      refine ⟨by rw [List.getElem?_cons_succ]; exact h1, fun m hm => ?_⟩
      cases m with
      | zero => rw [List.getElem?_cons_zero]; exact fun e => c (Option.some.inj e)
      | succ m => rw [List.getElem?_cons_succ]; exact h2 m (by omega)
theorem idxN_new : ∀ {ts : List Int} {t : Int}, t ∉ ts → idxN (ts ++ [t]) t = ts.length
  | [], t, _ => by rw [List.nil_append, idxN_cons, if_pos rfl]; rfl
  | x :: r, t, h => by
    rw [List.cons_append, idxN_cons, if_neg fun (c : x = t) => h (by rw [c]; exact List.mem_cons_self), idxN_new fun z => h (List.mem_cons_of_mem _ z)]
    rfl
theorem plI_cons (ts acc : List Int) (t : Int) (r : List Int) : plI ts acc (t :: r) = if 0 < t then (if t ∈ ts then plI ts (acc ++ [(idxN ts t : Int) + 1]) r else plI (ts ++ [t]) (acc ++ [(ts.length : Int) + 1]) r) else plI ts (acc ++ [0]) r := rfl
section
variable {P : Program} {w : World} {K : PySem.W.Frag} {mg : Str → Option Value} {base : Heap}
/-! ### _law_plain -/
abbrev s__law_plain : Stmt := top 46
theorem sc__law_plain : FnScope ["naming", "tones", "found", "tone"] ["naming"] (defScope s__law_plain) := ⟨rfl, rfl, rfl, by decide +kernel, rfl, by decide +kernel, by decide +kernel⟩
theorem ok_lplain {f : Addr} {fd : FuncData} (F : Fun K "_law_plain" "_law_plain" s__law_plain f fd) (n_tuple : mg "tuple" = none) : FnOk P w K mg base CX0 1 f fd ["naming"] (spPlain K) := by
  refine F.ok sc__law_plain (fun vs H Q E h => ?_) (fun cdv A outer s H vs Q E hr h => ?_)
  · obtain ⟨_, _, rfl, _⟩ := h
    rfl
  · obtain ⟨v, ns, rfl, ⟨a, rfl, ea⟩, ln, q⟩ := h
    refine ⟨_, (pss_cons (ps_par (i := 1) (j := 2) (by rfl) sc__law_plain.nd rfl rfl (by decide) rfl rfl (pa_cons (pe_lst pa_nil) (pa_cons (pe_lst pa_nil) pa_nil)) (by rfl))
    (Evl.pss_cut (ps_for PassesOwn.never rfl (pi_seq (pv 0)) (pg_name (i := 3) sc__law_plain.nd rfl (Or.inl rfl))
      (Evl.pss_cut (ps_if (PW.pt (pw_and (pt_cmpR op_gt (pv 3) pe_int (nomark _)) (pw_and1 (pt_cmpR (r := rIn K true) op_notIn_seq (pv 3) (pv 1) rfl)))) (pss_one (ps_expr (pe_bm PySem.F.plainAttrs_list PySem.F.slot_list_append PySem.F.type_list_append mt_append (pv 1) (pa_cons (pv 3) pa_nil)))) pss_nil)
    (pss_one (ps_expr (pe_bm PySem.F.plainAttrs_list PySem.F.slot_list_append PySem.F.type_list_append mt_append (pv 2) (pa_cons (pe_ifExp (pt_cmpR op_gt (pv 3) pe_int (nomark _)) (pe_op op_add (pe_bm PySem.F.plainAttrs_list PySem.F.slot_list_index PySem.F.type_list_index mt_index (pv 1) (pa_cons (pv 3) pa_nil)) pe_int) pe_int) pa_nil))))))
    (pss_one (ps_ret (pe_callTy call_tuple_of (by rfl) n_tuple (by decide +kernel) (pa_cons (pv 2) pa_nil)))))), ?_⟩
    refine ⟨by show 0 ≤ sizeLine; decide, fun d kd => ?_⟩
    have d0 := kd
    have s1 := same_new kd (.lst [])
    have ed : upd H d (.lst []) d = some (.lst (([] : List Int).map V.int)) := upd_same
    generalize upd H d (.lst []) = H0 at s1 ed ⊢
    refine ⟨by show 0 ≤ sizeLine; decide, fun M kM => ?_⟩
    have M0 : H M = none := by
      cases h : H M with
      | none => rfl
      | some o => rw [s1 _ _ h] at kM; cases kM
    have s2 := s1.trans (same_new kM (.lst []))
    have dM : d ≠ M := ne_of_none ed kM
    have ed := (same_new kM (.lst [])) _ _ ed
    have eM : upd H0 M (.lst []) M = some (.lst (([] : List Int).map V.int)) := upd_same
    generalize upd H0 M (.lst []) = H1 at s2 ed eM ⊢
    clear s1 kM kd
    refine ⟨_, _, rfl, ?_⟩
    let S : L2.St → Prop := fun σ => ∃ o3, σ = [some (.ref a), some (.ref d), some (.ref M), o3]
    let Inv : Hp → Nat → Prop := fun H' i => ∃ ts acc : List Int, Same H H' ∧ H' d = some (.lst (ts.map V.int)) ∧ H' M = some (.lst (acc.map V.int)) ∧ plI ts acc (ns.drop i) = plainN ns ∧ ts.length ≤ i ∧ acc.length = i
    refine ⟨fun σ H' => S σ ∧ Inv H' ns.length, ?_, ?_⟩
    · refine ⟨_, rfl, a, _, rfl, SqX.tup (s2 _ _ ea), fun J S2 W z0 => ?_⟩
      refine for_sq W (fun i σ H' => S σ ∧ Inv H' i) ⟨⟨none, rfl⟩, [], [], s2, ed, eM, rfl, Nat.le_refl _, rfl⟩ (fun i σ H' ⟨_, ts, acc, s, _⟩ => W.keep (fun o e => by
        rw [s2 _ _ ea] at e
        cases e
        exact s _ _ ea) z0) ?_ ?_
      · rintro i σ H2 y ey ⟨⟨o3, rfl⟩, ts, acc, s, ed2, eM2, pl, tl, cl⟩
        obtain ⟨t, et, rfl⟩ := at_intR ey
        obtain ⟨hi, gi⟩ := List.getElem?_eq_some_iff.mp et
        rw [List.drop_eq_getElem_cons hi, gi, plI_cons] at pl
        let S1 : L2.St := [some (.ref a), some (.ref d), some (.ref M), some (.int t)]
        refine ⟨fun σ H' => σ = S1 ∧ ∃ ts' : List Int, Same H H' ∧ H' d = some (.lst (ts'.map V.int)) ∧ H' M = some (.lst (acc.map V.int)) ∧ ts'.length ≤ i + 1 ∧ (0 < t → t ∈ ts' ∧ plI ts' (acc ++ [(idxN ts' t : Int) + 1]) (ns.drop (i + 1)) = plainN ns) ∧ (¬ 0 < t → plI ts' (acc ++ [0]) (ns.drop (i + 1)) = plainN ns), ?_, ?_⟩
        · refine ⟨_, rfl, _, _, rfl, rfl, _, rfl, iteD (fun c => ?_) fun c => ⟨rfl, ts, s, ed2, eM2, by omega, fun z => absurd z c, fun _ => by rw [if_neg c] at pl; exact pl⟩⟩
          rw [if_pos c] at pl
          refine ⟨_, rfl, _, rfl, d, _, rfl, .inl (SqL.of ed2), rfl, flat_ints ts, _, rfl, ?_⟩
          rw [inV_ints, if_pos rfl]
          by_cases m : t ∈ ts
          · rw [decide_eq_true m]
            rw [if_pos m] at pl
            exact iteF ⟨rfl, ts, s, ed2, eM2, by omega, fun _ => ⟨m, pl⟩, fun z => absurd c z⟩
          · rw [decide_eq_false m]
            rw [if_neg m] at pl
            refine iteT ⟨_, rfl, .inl ⟨rfl, _, SqL.of ed2⟩, _, rfl, d, _, _, rfl, rfl, ed2, by rw [List.length_map, sizeLine_eq]; omega, rfl, ts ++ [t], same_off s d0, by rw [upd_same, List.map_append]; rfl, by rw [upd_ne dM.symm]; exact eM2, by rw [List.length_append]; show _ + 1 ≤ _; omega, fun _ => ⟨List.mem_append_right _ (List.mem_singleton.mpr rfl), ?_⟩, fun z => absurd c z⟩
            rw [idxN_new m]
            exact pl
        rintro σ H3 ⟨rfl, ts', s3, ed3, eM3, tl3, p1, p2⟩
        have ll : (acc.map V.int).length < sizeLine := by rw [List.length_map, sizeLine_eq]; omega
        refine ⟨_, rfl, .inl ⟨rfl, _, SqL.of eM3⟩, _, rfl, _, _, rfl, rfl, _, rfl, iteD (fun c => ?_) fun c => ?_⟩
        · obtain ⟨m, pl3⟩ := p1 c
          obtain ⟨x1, x2⟩ := idxN_at m
          refine ⟨_, rfl, .inl ⟨rfl, _, SqL.of ed3⟩, _, rfl, d, _, .int t, idxN ts' t, .int t, rfl, rfl, SqL.of ed3, rfl, flat_ints ts', by rw [List.getElem?_map, x1]; rfl, by show decide (t = t) = true; exact decide_eq_true rfl, fun m' z' hm hz => ?_, _, _, rfl, rfl, M, _, _, rfl, rfl, eM3, ll, ⟨_, rfl⟩, ts', acc ++ [(idxN ts' t : Int) + 1], same_off s3 M0, by rw [upd_ne dM]; exact ed3, by rw [upd_same, List.map_append]; rfl, pl3, tl3, by rw [List.length_append, cl]; rfl⟩
          obtain ⟨w', ew, rfl⟩ := at_intR hz
          show decide (w' = t) = false
          exact decide_eq_false fun z => x2 m' hm (by rw [ew, z])
        · exact ⟨M, _, _, rfl, rfl, eM3, ll, ⟨_, rfl⟩, ts', acc ++ [0], same_off s3 M0, by rw [upd_ne dM]; exact ed3, by rw [upd_same, List.map_append]; rfl, p2 c, tl3, by rw [List.length_append, cl]; rfl⟩
      · rintro σ H2 ⟨st, iv⟩
        rw [List.length_map] at iv
        exact ⟨st, iv⟩
    rintro σ H2 ⟨⟨o3, rfl⟩, ts, acc, s, ed2, eM2, pl, tl, cl⟩
    rw [List.drop_length] at pl
    refine ⟨_, rfl, M, _, rfl, .inl ⟨SqL.of eM2, fun p hp => ?_⟩⟩
    refine q p _ (s.trans (same_new hp _)) ⟨p, rfl, ?_⟩
    rw [upd_same, ← pl]; rfl
/-! ### _law_coarser -/
abbrev s__law_coarser : Stmt := top 48
theorem sc__law_coarser : FnScope ["naming", "other", "at", "spot"] ["naming", "other"] (defScope s__law_coarser) := ⟨rfl, rfl, rfl, by decide +kernel, rfl, by decide +kernel, by decide +kernel⟩
def spLCoarse (K : PySem.W.Frag) : Sp := fun vs H Q _ => ∃ (v u : V) (n m : Nam), vs = [v, u] ∧ LotN H v n ∧ LotN H u m ∧ n.length = m.length ∧ n.length ≤ 100 ∧ ∀ H', Same H H' → Q (.bl (coarN n m)) H'
theorem ok_lcoarse {f : Addr} {fd : FuncData} (F : Fun K "_law_coarser" "_law_coarser" s__law_coarser f fd) (n_len : mg "len" = none) (n_range : mg "range" = none) : FnOk P w K mg base CX0 1 f fd ["naming", "other"] (spLCoarse K) := by
  refine F.ok sc__law_coarser (fun vs H Q E h => ?_) (fun cdv A outer s H vs Q E hr h => ?_)
  · obtain ⟨_, _, _, _, rfl, _⟩ := h
    rfl
  · obtain ⟨v, u, n, m, rfl, ⟨a, rfl, ea⟩, ⟨b, rfl, eb⟩, ll, ln, q⟩ := h
    refine ⟨_, (Evl.pss_cut (ps_for PassesOwn.never rfl (pi_range1 (by rfl) n_range (pa_cons (pe_callB call_len_seq (by rfl) n_len PySem.boot_len (pa_cons (pv 1) pa_nil)) pa_nil)) (pg_name (i := 2) sc__law_coarser.nd rfl (Or.inl rfl))
      (Evl.pss_cut (ps_if (PW.pt (pw_and (pt_cmpR op_eq (pe_ix ix_tup (pv 1) (pv 2) (fun _ _ => rfl)) pe_int (nomark _)) (pw_and1 (pt_cmpR op_ne (pe_ix ix_tup (pv 0) (pv 2) (fun _ _ => rfl)) pe_int (nomark _))))) (pss_one (ps_ret pe_bl)) pss_nil)
    (pss_one (ps_for PassesOwn.never rfl (pi_range1 (by rfl) n_range (pa_cons (pv 2) pa_nil)) (pg_name (i := 3) sc__law_coarser.nd rfl (Or.inl rfl))
      (pss_one (ps_if (PW.pt (pw_and (pt_cmpR op_eq (pe_ix ix_tup (pv 1) (pv 3) (fun _ _ => rfl)) (pe_ix ix_tup (pv 1) (pv 2) (fun _ _ => rfl)) (nomark _)) (pw_and1 (pt_cmpR op_ne (pe_ix ix_tup (pv 0) (pv 3) (fun _ _ => rfl)) (pe_ix ix_tup (pv 0) (pv 2) (fun _ _ => rfl)) (nomark _))))) (pss_one (ps_ret pe_bl)) pss_nil))))))
    (pss_one (ps_ret pe_bl))), ?_⟩
    unfold coarN at q
    rw [decide_eq_true ll, Bool.true_and] at q
    have lz : (n.zip m).length = m.length := by rw [List.length_zip]; omega
    refine ⟨fun σ H' => (∃ o2 o3, σ = [some (.ref a), some (.ref b), o2, o3]) ∧ H' = H ∧ coS (n.zip m) [] = coS [] (n.zip m), ?_, ?_⟩
    · refine ⟨_, rfl, b, _, rfl, .inr (SqT.of eb), _, rfl, by omega, by rw [List.length_map]; omega, ?_⟩
      rw [List.length_map]
      refine for_range (n := (m.length : Int).toNat) (fun i σ H' => (∃ o2 o3, σ = [some (.ref a), some (.ref b), o2, o3]) ∧ H' = H ∧ coS ((n.zip m).take i) ((n.zip m).drop i) = coS [] (n.zip m)) ⟨⟨none, none, rfl⟩, rfl, rfl⟩ ?_ (fun σ H' ⟨st, e, c⟩ => ⟨st, e, by
        rw [show (m.length : Int).toNat = m.length by omega, ← lz, List.take_length, List.drop_length] at c
        exact c⟩)
      rintro i σ H' hi ⟨⟨o2, o3, rfl⟩, rfl, co⟩
      have hi2 : i < m.length := by omega
      obtain ⟨t, et⟩ : ∃ t, n[i]? = some t := ⟨_, List.getElem?_eq_getElem (by omega)⟩
      obtain ⟨h, eh⟩ : ∃ h, m[i]? = some h := ⟨_, List.getElem?_eq_getElem hi2⟩
      have hz : (n.zip m)[i]? = some (t, h) := List.getElem?_zip_eq_some.mpr ⟨et, eh⟩
      obtain ⟨hiz, giz⟩ := List.getElem?_eq_some_iff.mp hz
      rw [List.drop_eq_getElem_cons hiz, giz] at co
      have cS : coS ((n.zip m).take i) ((t, h) :: (n.zip m).drop (i + 1)) = ((!(decide (h = 0) && !decide (t = 0)) && ((n.zip m).take i).all fun q => !(decide (q.2 = h) && !decide (q.1 = t))) && coS ((n.zip m).take i ++ [(t, h)]) ((n.zip m).drop (i + 1))) := rfl
      rw [cS] at co
      have tk : (n.zip m).take (i + 1) = (n.zip m).take i ++ [(t, h)] := by rw [List.take_add_one, hz]; rfl
      rw [← tk] at co
      have ixN : ∀ {j : Nat} {x : Int}, n[j]? = some x → atI (n.map V.int) (j : Nat) = some (.int x) := fun e => atI_nat (by rw [List.getElem?_map, e]; rfl)
      have ixM : ∀ {j : Nat} {x : Int}, m[j]? = some x → atI (m.map V.int) (j : Nat) = some (.int x) := fun e => atI_nat (by rw [List.getElem?_map, e]; rfl)
      rw [show (0 : Int) + (i : Nat) = (i : Nat) by omega]
      have bad : ((!(decide (h = 0) && !decide (t = 0)) && ((n.zip m).take i).all fun q => !(decide (q.2 = h) && !decide (q.1 = t)))) = false → Q (.bl false) H' := fun c => by
        rw [c, Bool.false_and] at co
        have := q H' (Same.refl _)
        rw [← co] at this
        exact this
      refine ⟨fun σ H2 => σ = [some (.ref a), some (.ref b), some (.int (i : Nat)), o3] ∧ H2 = H' ∧ (!(decide (h = 0) && !decide (t = 0))) = true, ?_, ?_⟩
      · refine ⟨_, rfl, _, rfl, b, _, (i : Nat), _, rfl, rfl, SqT.of eb, ixM eh, rfl, _, rfl, ?_⟩
        have eh0 : decide (V.int h = V.int 0) = decide (h = 0) := decide_eq_decide.mpr ⟨fun z => by injection z, fun z => by rw [z]⟩
        rw [eh0]
        by_cases c : h = 0
        · rw [decide_eq_true c]
          refine iteT ⟨_, rfl, _, rfl, a, _, (i : Nat), _, rfl, rfl, SqT.of ea, ixN et, rfl, _, rfl, ?_⟩
          have et0 : decide (V.int t = V.int 0) = decide (t = 0) := decide_eq_decide.mpr ⟨fun z => by injection z, fun z => by rw [z]⟩
          rw [et0]
          by_cases c2 : t = 0
          · rw [decide_eq_true c2]
            exact iteF ⟨rfl, rfl, rfl⟩
          · rw [decide_eq_false c2]
            exact iteT (bad (by rw [decide_eq_true c, decide_eq_false c2]; rfl))
        · rw [decide_eq_false c]
          exact iteF ⟨rfl, rfl, rfl⟩
      rintro σ H2 ⟨rfl, rfl, c1⟩
      rw [c1, Bool.true_and] at bad co
      refine ⟨_, rfl, _, rfl, by omega, by omega, ?_⟩
      refine for_range (n := ((i : Nat) : Int).toNat) (fun j σ H3 => (∃ o3, σ = [some (.ref a), some (.ref b), some (.int (i : Nat)), o3]) ∧ H3 = H2 ∧ (((n.zip m).take j).all fun q => !(decide (q.2 = h) && !decide (q.1 = t))) = true) ⟨⟨o3, rfl⟩, rfl, rfl⟩ ?_ (fun σ H3 ⟨⟨o3, e⟩, e2, c⟩ => ?_)
      · rintro j σ H3 hj ⟨⟨o4, rfl⟩, rfl, c⟩
        have hj2 : j < i := by omega
        obtain ⟨t2, et2⟩ : ∃ t, n[j]? = some t := ⟨_, List.getElem?_eq_getElem (by omega)⟩
        obtain ⟨h2, eh2⟩ : ∃ h, m[j]? = some h := ⟨_, List.getElem?_eq_getElem (by omega)⟩
        have hz2 : (n.zip m)[j]? = some (t2, h2) := List.getElem?_zip_eq_some.mpr ⟨et2, eh2⟩
        rw [show (0 : Int) + (j : Nat) = (j : Nat) by omega]
        have tk2 : (((n.zip m).take (j + 1)).all fun q => !(decide (q.2 = h) && !decide (q.1 = t))) = !(decide (h2 = h) && !decide (t2 = t)) := by
          rw [List.take_add_one, hz2, List.all_append, c, Bool.true_and]
          show ((!(decide (h2 = h) && !decide (t2 = t))) && true) = _
          rw [Bool.and_true]
        refine ⟨_, rfl, _, rfl, b, _, (j : Nat), _, rfl, rfl, SqT.of eb, ixM eh2, _, rfl, _, rfl, b, _, (i : Nat), _, rfl, rfl, SqT.of eb, ixM eh, rfl, _, rfl, ?_⟩
        have e1 : decide (V.int h2 = V.int h) = decide (h2 = h) := decide_eq_decide.mpr ⟨fun z => by injection z, fun z => by rw [z]⟩
        rw [e1]
        by_cases g : h2 = h
        · rw [decide_eq_true g]
          refine iteT ⟨_, rfl, _, rfl, a, _, (j : Nat), _, rfl, rfl, SqT.of ea, ixN et2, _, rfl, _, rfl, a, _, (i : Nat), _, rfl, rfl, SqT.of ea, ixN et, rfl, _, rfl, ?_⟩
          have e2 : decide (V.int t2 = V.int t) = decide (t2 = t) := decide_eq_decide.mpr ⟨fun z => by injection z, fun z => by rw [z]⟩
          rw [e2]
          by_cases g2 : t2 = t
          · rw [decide_eq_true g2]
            exact iteF ⟨⟨_, rfl⟩, rfl, by rw [tk2, decide_eq_true g2]; simp⟩
          · rw [decide_eq_false g2]
            refine iteT (bad ?_)
            rw [List.all_eq_false]
            exact ⟨(t2, h2), List.mem_of_getElem? (by rw [List.getElem?_take_of_lt hj2]; exact hz2), by simp [g, g2]⟩
        · rw [decide_eq_false g]
          exact iteF ⟨⟨_, rfl⟩, rfl, by rw [tk2, decide_eq_false g]; rfl⟩
      · rw [show ((i : Nat) : Int).toNat = i by omega] at c
        rw [c, Bool.true_and] at co
        exact ⟨⟨_, _, e⟩, e2, co⟩
    rintro σ H1 ⟨⟨o2, o3, rfl⟩, rfl, co⟩
    have := q H1 (Same.refl _)
    rw [← co] at this
    exact this
end
end K6

namespace K6
open PySem PySem.Spec PyProof.Rows L2 Hb St Sq Ow En Zp RZ Rd Xb Da Lo Lg Wa
theorem rd_eqN {K : PySem.W.Frag} {H : Hp} {Q : VK} {v u : V} {a b : Nam} (ha : LotN H v a) (hb : LotN H u b) (q : Q (.bl (decide (a = b))) H) : rEqD K v u H Q :=
  ⟨iD a, iD b, ha.dp, hb.dp, (sh_iD a).ok (by decide), (sh_iD b).ok (by decide), by rw [eqv_iD]; exact q⟩
theorem growL_at (k : Nat) (n : Nam) (j : Nat) (hj : j < k + 1) : (((List.range (j + 1)).map fun t : Nat => n ++ [(t : Int)]).filter fun x => decide (plainN x = x)) = (((List.range j).map fun t : Nat => n ++ [(t : Int)]).filter fun x => decide (plainN x = x)) ++ (if plainN (n ++ [(j : Int)]) = n ++ [(j : Int)] then [n ++ [(j : Int)]] else []) := by
  rw [List.range_succ, List.map_append, List.filter_append]
  congr 1
  by_cases c : plainN (n ++ [(j : Int)]) = n ++ [(j : Int)]
  · rw [if_pos c]
    exact List.filter_cons_of_pos (decide_eq_true c)
  · rw [if_neg c]
    exact List.filter_cons_of_neg (by rw [decide_eq_false c]; decide)
section
variable {P : Program} {w : World} {K : PySem.W.Frag} {mg : Str → Option Value} {base : Heap}
/-! ### _law_all -/
abbrev s__law_all : Stmt := top 47
theorem sc__law_all : FnScope ["many", "found", "turn", "more", "naming", "tone"] ["many"] (defScope s__law_all) := ⟨rfl, rfl, rfl, by decide +kernel, rfl, by decide +kernel, by decide +kernel⟩
theorem ok_lall {f : Addr} {fd : FuncData} (F : Fun K "_law_all" "_law_all" s__law_all f fd) (C__law_plain : Cl P w K mg base "_law_plain" ["naming"] [] 1 (spPlain K)) (n_range : mg "range" = none) : FnOk P w K mg base CX0 2 f fd ["many"] (spNams K) := by
  refine F.ok sc__law_all (fun vs H Q E h => ?_) (fun cdv A outer s H vs Q E hr h => ?_)
  · obtain ⟨_, rfl, _⟩ := h
    rfl
  · obtain ⟨k, rfl, hk, q⟩ := h
    refine ⟨_, (pss_cons (ps_set (i := 1) sc__law_all.nd rfl (Or.inl rfl) (pe_lst (pa_cons (pe_tup pa_nil) pa_nil)))
    (Evl.pss_cut (ps_for PassesOwn.never rfl (pi_range1 (by rfl) n_range (pa_cons (pv 0) pa_nil)) (pg_name (i := 2) sc__law_all.nd rfl (Or.inl rfl))
      (pss_cons (ps_set (i := 3) sc__law_all.nd rfl (Or.inl rfl) (pe_lst pa_nil))
    (Evl.pss_cut (ps_for PassesOwn.never rfl (pi_seq (pv 1)) (pg_name (i := 4) sc__law_all.nd rfl (Or.inl rfl))
      (pss_one (ps_for PassesOwn.never rfl (pi_range1 (by rfl) n_range (pa_cons (pe_op op_add (pv 0) pe_int) pa_nil)) (pg_name (i := 5) sc__law_all.nd rfl (Or.inl rfl))
      (pss_one (ps_if (pt_cmpR (op_eqD hr.units) (pe_use C__law_plain (hr.mono (by decide)) rfl (pa_cons (pe_op (r := rCatA K) op_catA (pv 4) (pe_tup (pa_cons (pv 5) pa_nil))) pa_nil)) (pe_op (r := rCatA K) op_catA (pv 4) (pe_tup (pa_cons (pv 5) pa_nil))) (nomark _)) (pss_one (ps_expr (pe_bm PySem.F.plainAttrs_list PySem.F.slot_list_append PySem.F.type_list_append mt_append (pv 3) (pa_cons (pe_op (r := rCatA K) op_catA (pv 4) (pe_tup (pa_cons (pv 5) pa_nil))) pa_nil)))) pss_nil)))))
    (pss_one (ps_set (i := 1) sc__law_all.nd rfl (Or.inl rfl) (pv 3))))))
    (pss_one (ps_ret (pv 1))))), ?_⟩
    refine ⟨by show 0 ≤ sizeLine; decide, fun t kt => ⟨by show 1 ≤ sizeLine; decide, fun lp kl => ?_⟩⟩
    have a0 := same_new kt (.tup [])
    have a1 := same_new kl (.lst [.ref t])
    have h1 : NamsH (upd (upd H t (.tup [])) lp (.lst [.ref t])) lp (namsL k 0) := ⟨[.ref t], upd_same, .cons ⟨t, rfl, a1 _ _ upd_same⟩ .nil⟩
    have s1 : Same H (upd (upd H t (.tup [])) lp (.lst [.ref t])) := a0.trans a1
    generalize upd (upd H t (.tup [])) lp (.lst [.ref t]) = H1 at h1 s1 ⊢
    clear a0 a1 kt kl
    refine ⟨fun σ H' => ∃ p o2 o3 o4 o5, σ = [some (.int (k : Int)), some (.ref p), o2, o3, o4, o5] ∧ Same H H' ∧ NamsH H' p (namsL k k), ?_, ?_⟩
    · refine ⟨_, rfl, _, rfl, by omega, by omega, ?_⟩
      refine for_range (n := (k : Int).toNat) (fun i σ H' => ∃ p o2 o3 o4 o5, σ = [some (.int (k : Int)), some (.ref p), o2, o3, o4, o5] ∧ Same H H' ∧ NamsH H' p (namsL k i)) ⟨lp, _, _, _, _, rfl, s1, h1⟩ ?_ (fun σ H' h => by rw [show (k : Int).toNat = k by omega] at h; exact h)
      rintro i σ H2 hi ⟨p, o2, o3, o4, o5, rfl, s2, its, ep, al⟩
      have hi2 : i + 1 ≤ k := by omega
      obtain ⟨l52, _⟩ := namsL_in k hk (i + 1) hi2
      obtain ⟨_, hin⟩ := namsL_in k hk i (by omega)
      refine ⟨by show 0 ≤ sizeLine; decide, fun D hD => ?_⟩
      have D0 : H D = none := by
        cases h : H D with
        | none => rfl
        | some o => rw [s2 _ _ h] at hD; cases hD
      let M : List Nam → Hp → Prop := fun acc H' => Kept D H2 H' ∧ Same H H' ∧ ∃ ys, H' D = some (.lst ys) ∧ All2 (LotN H') ys acc
      have m0 : M [] (upd H2 D (.lst [])) := ⟨kept_same (same_new hD _), s2.trans (same_new hD _), [], upd_same, .nil⟩
      have pD : p ≠ D := ne_of_none ep hD
      let S2 : Option V → Option V → L2.St := fun o4 o5 => [some (.int (k : Int)), some (.ref p), some (.int (0 + (i : Nat))), some (.ref D), o4, o5]
      refine ⟨fun σ H' => (∃ o4 o5, σ = S2 o4 o5) ∧ M (namsL k (i + 1)) H', ?_, ?_⟩
      · generalize upd H2 D (.lst []) = H3 at m0 ⊢
        refine ⟨_, rfl, p, its, rfl, SqX.lst (m0.1 _ _ ep pD), fun J S W z0 => ?_⟩
        refine for_sq W (fun j σ H' => (∃ o4 o5, σ = S2 o4 o5) ∧ M (((namsL k i).take j).flatMap (growL k)) H') ⟨⟨_, _, rfl⟩, m0⟩ (fun j σ H' pv => W.keep (fun o e => by
          rw [m0.1 _ _ ep pD] at e
          cases e
          exact pv.2.1 _ _ ep pD) z0) ?_ ?_
        · rintro j σ H4 y ey ⟨⟨o4, o5, rfl⟩, m4⟩
          obtain ⟨n, en, nb, rfl, enb⟩ := al.get ey
          obtain ⟨hnl, hn0⟩ := hin n (at_mem en)
          have enb4 := m4.1 _ _ enb (ne_of_none enb hD)
          have tk : ((namsL k i).take (j + 1)).flatMap (growL k) = ((namsL k i).take j).flatMap (growL k) ++ growL k n := flat_take _ _ en
          have lt := flat_le (growL k) (namsL k i) (j + 1)
          rw [tk, List.length_append] at lt
          have lt2 : ((namsL k i).flatMap (growL k)).length ≤ 52 := l52
          refine ⟨_, rfl, _, _, rfl, rfl, _, rfl, by omega, by omega, ?_⟩
          refine for_range (n := ((k : Int) + 1).toNat) (fun r σ H' => (∃ o5, σ = S2 (some (.ref nb)) o5) ∧ M (((namsL k i).take j).flatMap (growL k) ++ (((List.range r).map fun t : Nat => n ++ [(t : Int)]).filter fun x => decide (plainN x = x))) H') ⟨⟨_, rfl⟩, by show M (_ ++ []) _; rw [List.append_nil]; exact m4⟩ ?_ (fun σ H' ⟨⟨o5, e⟩, m⟩ => ⟨⟨_, _, e⟩, by
            rw [tk]
            rw [show ((k : Int) + 1).toNat = k + 1 by omega] at m
            exact m⟩)
          rintro r σ H5 hr2 ⟨⟨o5, rfl⟩, m5⟩
          have hr3 : r < k + 1 := by omega
          rw [show (0 : Int) + (r : Nat) = (r : Nat) by omega]
          have enb5 := m5.1 _ _ enb (ne_of_none enb hD)
          have lg : (((namsL k i).take j).flatMap (growL k) ++ (((List.range r).map fun t : Nat => n ++ [(t : Int)]).filter fun x => decide (plainN x = x))).length ≤ 100 := by
            have := List.length_filter_le (fun x => decide (plainN x = x)) ((List.range r).map fun t : Nat => n ++ [(t : Int)])
            rw [List.length_map, List.length_range] at this
            rw [List.length_append]
            omega
          -- naming + (tone,)
          have mk : ∀ {H6 : Hp} {Q' : VK}, Same H5 H6 → (∀ b H7, Same H6 H7 → LotN H7 (.ref b) (n ++ [(r : Int)]) → Q' (.ref b) H7) → 1 ≤ sizeLine ∧ ∀ t, H6 t = none → rCatA K (.ref nb) (.ref t) (upd H6 t (.tup [V.int (r : Nat)])) Q' := fun {H6 Q'} s6 qq => ⟨by decide, fun t ht => by
            have s7 := same_new ht (.tup [V.int (r : Nat)])
            refine rd_catT (s7 _ _ (s6 _ _ enb5)) upd_same (by rw [List.length_map, hnl]; show i + 1 ≤ _; omega) fun b H8 s8 eb => ?_
            exact qq b H8 (s7.trans s8) ⟨b, rfl, by rw [eb, List.map_append]; rfl⟩⟩
          have ln5 : (n ++ [(r : Int)]).length ≤ 100 := by rw [List.length_append, hnl]; show i + 1 ≤ _; omega
          have ga := growL_at k n r hr3
          refine ⟨_, rfl, _, rfl, mk (Same.refl _) fun b1 H6 s6 hb1 => ?_⟩
          refine ⟨.ref b1, _, rfl, hb1, ln5, fun p2 H7 s7 hp2 => ?_⟩
          refine ⟨_, rfl, _, rfl, mk (s6.trans s7) fun b3 H8 s8 hb3 => rd_eqN (hp2.on (.same s8)) hb3 ⟨_, rfl, ?_⟩⟩
          have s58 := (s6.trans s7).trans s8
          by_cases c : plainN (n ++ [(r : Int)]) = n ++ [(r : Int)]
          · rw [decide_eq_true c]
            rw [if_pos c] at ga
            obtain ⟨mk5, ms5, ys, eD, aly⟩ := m5
            refine iteT ⟨_, rfl, .inl ⟨rfl, _, SqL.of (s58 _ _ eD)⟩, _, rfl, _, rfl, mk s58 fun b4 H9 s9 hb4 => ?_⟩
            have s59 := s58.trans s9
            have eD9 := s59 _ _ eD
            have fx : Fix H9 (upd H9 D (.lst (ys ++ [.ref b4]))) := Fix.lst eD9
            refine ⟨D, ys, _, rfl, rfl, eD9, by rw [aly.len, sizeLine_eq]; omega, ⟨_, rfl⟩, (mk5.trans fun b o e _ => s59 b o e).trans kept_upd, same_off (ms5.trans s59) D0, _, upd_same, ?_⟩
            rw [ga, ← List.append_assoc]
            exact (aly.imp fun _ _ r => (r.on (.same s59)).on (.fix fx)).app (.cons (hb4.on (.fix fx)) .nil)
          · rw [decide_eq_false c]
            rw [if_neg c, List.append_nil] at ga
            obtain ⟨mk5, ms5, ys, eD, aly⟩ := m5
            refine iteF ⟨⟨_, rfl⟩, mk5.trans fun b o e _ => s58 b o e, ms5.trans s58, ys, s58 _ _ eD, ?_⟩
            rw [ga]
            exact aly.imp fun _ _ r => r.on (.same s58)
        · rintro σ H4 ⟨⟨o4, o5, rfl⟩, m4⟩
          rw [al.len, List.take_length] at m4
          exact ⟨⟨_, _, rfl⟩, m4⟩
      rintro σ H3 ⟨⟨o4, o5, rfl⟩, _, s3, ys, eD, aly⟩
      exact ⟨_, rfl, D, _, _, _, _, rfl, s3, ys, eD, aly⟩
    rintro σ H2 ⟨p, o2, o3, o4, o5, rfl, s2, np⟩
    rw [nams_eq k hk] at np
    exact ⟨_, rfl, q p H2 s2 np⟩
end
end K6

namespace K6
open PySem PySem.Spec PyProof.Rows L2 Hb St Sq Ow En Zp RZ Rd Xb Da Lo Lg Wa
def ownN (k : Nat) : Nam := (List.range k).map fun i : Nat => (i : Int) + 1
theorem own_len (k : Nat) : (ownN k).length = k := by unfold ownN; rw [List.length_map, List.length_range]
theorem own_eq {l : Lot} (nd : l.Nodup) {t u : Tale} (ht : Good t) (hu : Good u) : decide (tonT (tone l (ownN l.length)) t = tonT (tone l (ownN l.length)) u) = decide (thinT l t = thinT l u) := by
  have ln : l.length = (ownN l.length).length := (own_len _).symm
  have inj := tone_inj ln (List.Pairwise.map _ (fun a b (h : a ≠ b) (e : (a : Int) + 1 = (b : Int) + 1) => h (by omega)) List.nodup_range)
  have pos := tone_pos ln fun n hn => by
    obtain ⟨i, _, rfl⟩ := List.mem_map.mp hn
    omega
  refine decide_eq_decide.mpr ⟨fun e => Decidable.byContradiction fun z => ton_two pos inj ht hu z e, fun e => ?_⟩
  rw [ton_thin pos, ton_thin pos, e]
theorem len_rows (n i : Nat) (h : n ≤ 30) (hi : i ≤ 30) : ((List.range i).flatMap (Cb.prow n)).length ≤ 900 := by
  have : ∀ l : List Nat, (l.flatMap (Cb.prow n)).length ≤ l.length * 30 := fun l => by
    induction l with
    | nil => simp
    | cons a l ih =>
      rw [List.flatMap_cons, List.length_append, List.length_cons]
      have : (Cb.prow n a).length ≤ 30 := by unfold Cb.prow; rw [List.length_map, List.length_range]; omega
      omega
  have := this (List.range i)
  rw [List.length_range] at this
  omega
theorem rd_neTn {K : PySem.W.Frag} {H : Hp} {Q : VK} {v u : V} {a b : List (List Int)} (ha : TalN H v a) (hb : TalN H u b) (q : Q (.bl (!decide (a = b))) H) : rNeD K v u H Q :=
  ⟨tnD a, tnD b, ha.dp, hb.dp, (sh_tnD a).ok (by decide), (sh_tnD b).ok (by decide), by rw [eqv_tnD]; exact q⟩
section
variable {P : Program} {w : World} {K : PySem.W.Frag} {mg : Str → Option Value} {base : Heap}
/-! ### _law_left -/
abbrev s__law_left : Stmt := top 45
theorem sc__law_left : FnScope ["tales", "bells", "naming", "own", "found", "i", "j", "at"] ["tales", "bells", "naming"] (defScope s__law_left) := ⟨rfl, rfl, rfl, by decide +kernel, rfl, by decide +kernel, by decide +kernel⟩
def spLLeft (K : PySem.W.Frag) : Sp := fun vs H Q _ => ∃ (a b n : Addr) (its : List V) (ts : List Tale) (l : Lot) (ns : Nam), vs = [.ref a, .ref b, .ref n] ∧ H a = some (.lst its) ∧ All2 (TalH H) its ts ∧ (∀ t ∈ ts, TlOk t) ∧ ts.length ≤ 30 ∧ H b = some (.tup (l.map V.str)) ∧ H n = some (.tup (ns.map V.int)) ∧ l.length = ns.length ∧ l.Nodup ∧ l.length ≤ 4 ∧ ∀ p H', Same H H' → TupPrs H' p (uaF ts l ns) → Q (.ref p) H'
theorem ok_lleft {f : Addr} {fd : FuncData} (F : Fun K "_law_left" "_law_left" s__law_left f fd) (C__law_tones : Cl P w K mg base "_law_tones" ["tale", "bells", "naming"] [] 1 (spLTones K)) (n_len : mg "len" = none) (n_range : mg "range" = none) (n_tuple : mg "tuple" = none) : FnOk P w K mg base CX0 2 f fd ["tales", "bells", "naming"] (spLLeft K) := by
  refine F.ok sc__law_left (fun vs H Q E h => ?_) (fun cdv A outer s H vs Q E hr h => ?_)
  · obtain ⟨_, _, _, _, _, _, _, rfl, _⟩ := h
    rfl
  · obtain ⟨a, b, n, its, ts, l, ns, rfl, ea, al, okT, l30, eb, en, ll, nd, l4, q⟩ := h
    refine ⟨_, (pss_cons (ps_par (i := 3) (j := 4) (by rfl) sc__law_left.nd rfl rfl (by decide) rfl rfl (pa_cons (pe_callTy call_tuple_of (by rfl) n_tuple (by decide +kernel) (pa_cons (pe_lc (own := [("at", 7)]) (g := gName 7) rfl sc__law_left.nd (pi_range1 (by rfl) n_range (pa_cons (pe_callB call_len_seq (by rfl) n_len PySem.boot_len (pa_cons (pv 1) pa_nil)) pa_nil)) (blkOk_by (N := ["tales", "bells", "naming", "own", "found", "i", "j", "at"]) (sc := defScope s__law_left) (by decide +kernel)) (fun _ _ _ _ _ => pg_name (i := 7) sc__law_left.nd rfl (Or.inl rfl)) (fun _ _ _ _ _ => pts_nil) (fun _ _ _ _ _ => pe_op op_add (pv 7) pe_int)) pa_nil)) (pa_cons (pe_lst pa_nil) pa_nil)) (by rfl))
    (Evl.pss_cut (ps_for PassesOwn.never rfl (pi_range1 (by rfl) n_range (pa_cons (pe_callB call_len_seq (by rfl) n_len PySem.boot_len (pa_cons (pv 0) pa_nil)) pa_nil)) (pg_name (i := 5) sc__law_left.nd rfl (Or.inl rfl))
      (pss_one (ps_for PassesOwn.never rfl (pi_range2 (by rfl) n_range (pa_cons (pe_op op_add (pv 5) pe_int) (pa_cons (pe_callB call_len_seq (by rfl) n_len PySem.boot_len (pa_cons (pv 0) pa_nil)) pa_nil))) (pg_name (i := 6) sc__law_left.nd rfl (Or.inl rfl))
      (pss_one (ps_if (pt_cmpR (op_neD hr.units) (pe_use C__law_tones (hr.mono (by decide)) rfl (pa_cons (pe_ix ix_list (pv 0) (pv 5) (fun _ _ => rfl)) (pa_cons (pv 1) (pa_cons (pv 3) pa_nil)))) (pe_use C__law_tones (hr.mono (by decide)) rfl (pa_cons (pe_ix ix_list (pv 0) (pv 6) (fun _ _ => rfl)) (pa_cons (pv 1) (pa_cons (pv 3) pa_nil)))) (nomark _)) (pss_one (ps_if (pt_cmpR (op_eqD hr.units) (pe_use C__law_tones (hr.mono (by decide)) rfl (pa_cons (pe_ix ix_list (pv 0) (pv 5) (fun _ _ => rfl)) (pa_cons (pv 1) (pa_cons (pv 2) pa_nil)))) (pe_use C__law_tones (hr.mono (by decide)) rfl (pa_cons (pe_ix ix_list (pv 0) (pv 6) (fun _ _ => rfl)) (pa_cons (pv 1) (pa_cons (pv 2) pa_nil)))) (nomark _)) (pss_one (ps_expr (pe_bm PySem.F.plainAttrs_list PySem.F.slot_list_append PySem.F.type_list_append mt_append (pv 4) (pa_cons (pe_tup (pa_cons (pv 5) (pa_cons (pv 6) pa_nil))) pa_nil)))) pss_nil)) pss_nil)))))
    (pss_one (ps_ret (pe_callTy call_tuple_of (by rfl) n_tuple (by decide +kernel) (pa_cons (pv 4) pa_nil)))))), ?_⟩
    have ln := al.len
    refine ⟨_, rfl, b, _, rfl, .inr (SqT.of eb), _, rfl, by omega, by rw [List.length_map]; omega, fun D kD => ?_⟩
    refine lc_mf (ds := List.range l.length) (wk_range (a := D)) (fun _ => true) (fun _ y j => y = .int ((j : Int) + 1)) trivial kD (by simp) (fun j y j2 H' ey ek s mf => ?_) (fun H1 ys s1 e1 al1 => ?_)
    · obtain ⟨rfl, hj⟩ := rg_at ey
      obtain ⟨hj2, ekj⟩ := List.getElem?_eq_some_iff.mp ek
      rw [List.getElem_range] at ekj
      subst ekj
      refine ⟨rfl, _, rfl, _, _, rfl, rfl, ?_⟩
      exact mf_yes mf kD (fun _ _ _ _ _ h => h) ek (by rw [List.length_range]; omega) (Same.refl _) rfl rfl
    rw [Rd.filter_all] at al1
    have ez := al1.map_eq (f := fun j : Nat => V.int ((j : Int) + 1)) fun _ _ h => h
    rw [show ((List.range l.length).map fun j : Nat => V.int ((j : Int) + 1)) = (ownN l.length).map V.int by unfold ownN; rw [List.map_map]; rfl] at ez
    rw [ez] at e1
    refine ⟨D, _, rfl, .inl ⟨SqL.of e1, fun on kon => ⟨by show 0 ≤ sizeLine; decide, fun F0 kF => ?_⟩⟩⟩
    have s2 := s1.trans (same_new kon (.tup ((ownN l.length).map V.int)))
    have eo : upd H1 on (.tup ((ownN l.length).map V.int)) on = some (.tup ((ownN l.length).map V.int)) := upd_same
    generalize upd H1 on (.tup ((ownN l.length).map V.int)) = H2 at s2 eo kF ⊢
    have F00 : H F0 = none := by
      cases h : H F0 with
      | none => rfl
      | some o => rw [s2 _ _ h] at kF; cases kF
    have s3 := s2.trans (same_new kF (.lst []))
    have oF : on ≠ F0 := ne_of_none eo kF
    have eo3 := (same_new kF (.lst [])) _ _ eo
    have eF : upd H2 F0 (.lst []) F0 = some (.lst []) := upd_same
    generalize upd H2 F0 (.lst []) = H3 at s3 eo3 eF ⊢
    clear kF eo s2 kon e1 al1 s1 kD
    refine ⟨_, _, rfl, ?_⟩
    let LB : Nat × Nat → Bool := fun p => leftB l ns (ts.getD p.1 []) (ts.getD p.2 [])
    let S : Option V → Option V → L2.St := fun o5 o6 => [some (.ref a), some (.ref b), some (.ref n), some (.ref on), some (.ref F0), o5, o6, none]
    let M : List (Nat × Nat) → Hp → Prop := fun acc H' => Kept F0 H3 H' ∧ Same H H' ∧ ∃ ys, H' F0 = some (.lst ys) ∧ All2 (PrH H') ys acc
    refine ⟨fun σ H' => (∃ o5 o6, σ = S o5 o6) ∧ M (uaF ts l ns) H', ?_, ?_⟩
    · refine ⟨_, rfl, a, _, rfl, .inl (SqL.of (s3 _ _ ea)), _, rfl, by omega, by omega, ?_⟩
      refine for_range (n := (its.length : Int).toNat) (fun i σ H' => (∃ o5 o6, σ = S o5 o6) ∧ M (((List.range i).flatMap (Cb.prow ts.length)).filter LB) H') ⟨⟨none, none, rfl⟩, Kept.refl _ _, s3, [], eF, .nil⟩ ?_ (fun σ H' ⟨st, m⟩ => ⟨st, by
        rw [show (its.length : Int).toNat = ts.length by omega] at m
        exact m⟩)
      rintro i σ H4 hi ⟨⟨o5, o6, rfl⟩, m4⟩
      rw [show (0 : Int) + (i : Nat) = (i : Nat) by omega]
      have i3 : i < ts.length := by omega
      obtain ⟨t1, f1⟩ : ∃ t, ts[i]? = some t := ⟨_, List.getElem?_eq_getElem i3⟩
      obtain ⟨h1, g1, r1⟩ := al.getR f1
      refine ⟨_, rfl, _, _, rfl, rfl, _, rfl, a, its, rfl, .inl (SqL.of (m4.2.1 _ _ ea)), _, _, rfl, ⟨by omega, by omega, by omega, by omega⟩, ?_⟩
      let MI : Nat → Hp → Prop := fun d H' => M (((List.range i).flatMap (Cb.prow ts.length) ++ (Cb.prow ts.length i).take d).filter LB) H'
      refine for_range (n := ((its.length : Int) - ((i : Int) + 1)).toNat) (fun d σ H' => (∃ o6, σ = S (some (.int (i : Nat))) o6) ∧ MI d H') ⟨⟨o6, rfl⟩, by
        show M _ _
        rw [List.take_zero, List.append_nil]
        exact m4⟩ ?_ (fun σ H' ⟨⟨o6, e⟩, m⟩ => ⟨⟨_, _, e⟩, by
          have m : M _ _ := m
          rw [List.take_of_length_le (by unfold Cb.prow; rw [List.length_map, List.length_range]; omega)] at m
          rw [List.range_succ, List.flatMap_append]
          show M (List.filter LB (_ ++ (Cb.prow ts.length i ++ []))) H'
          rw [List.append_nil]
          exact m⟩)
      rintro d σ H5 hd ⟨⟨o6, rfl⟩, k5, s5, ys, eF5, aly⟩
      have hd2 : i + 1 + d < ts.length := by omega
      obtain ⟨j, ej⟩ : ∃ j : Nat, j = i + 1 + d := ⟨_, rfl⟩
      rw [show ((i : Int) + 1) + (d : Nat) = ((j : Nat) : Int) by omega]
      have tk : ((List.range i).flatMap (Cb.prow ts.length) ++ (Cb.prow ts.length i).take (d + 1)).filter LB = ((List.range i).flatMap (Cb.prow ts.length) ++ (Cb.prow ts.length i).take d).filter LB ++ (if LB (i, j) then [(i, j)] else []) := by
        have er : (Cb.prow ts.length i)[d]? = some (i, j) := by
          unfold Cb.prow
          rw [List.getElem?_map, List.getElem?_range (by omega), ej]
          rfl
        rw [List.take_add_one, er, ← List.append_assoc, List.filter_append (l₂ := Option.toList _)]
        congr 1
        show List.filter LB [(i, j)] = _
        cases c : LB (i, j) <;> simp [List.filter, c]
      obtain ⟨t2, f2⟩ : ∃ t, ts[j]? = some t := ⟨_, List.getElem?_eq_getElem (by omega)⟩
      obtain ⟨h2, g2, r2⟩ := al.getR f2
      have ek : LB (i, j) = (!decide (thinT l t1 = thinT l t2) && decide (tonT (tone l ns) t1 = tonT (tone l ns) t2)) := by
        show leftB l ns (ts.getD i []) (ts.getD j []) = _
        rw [List.getD_eq_getElem?_getD, List.getD_eq_getElem?_getD, f1, f2]; rfl
      rw [← own_eq nd (okT _ (at_mem f1)).good (okT _ (at_mem f2)).good] at ek
      have stay : ∀ H', Kept F0 H5 H' → Same H5 H' → LB (i, j) = false → MI (d + 1) H' := fun H' k s c => by
        show M (List.filter LB _) H'
        rw [tk, c]
        show M (_ ++ []) H'
        rw [List.append_nil]
        exact ⟨k5.trans k, s5.trans s, ys, s _ _ eF5, aly.imp fun _ _ r => r.on (.same s)⟩
      have e5l := s5 _ _ ea
      refine ⟨_, rfl, _, rfl, rd_ixL e5l g1 ⟨_, rfl, _, rfl, ⟨h1, b, on, t1, l, ownN l.length, rfl, r1.same s5, okT _ (at_mem f1), s5 _ _ eb, (k5 _ _ eo3 oF), (own_len _).symm, nd, l4, fun p1 H6 s6 z1 => ?_⟩⟩⟩
      refine ⟨_, rfl, _, rfl, rd_ixL (s6 _ _ e5l) g2 ⟨_, rfl, _, rfl, ⟨h2, b, on, t2, l, ownN l.length, rfl, (r2.same s5).same s6, okT _ (at_mem f2), s6 _ _ (s5 _ _ eb), s6 _ _ ((k5 _ _ eo3 oF)), (own_len _).symm, nd, l4, fun p2 H7 s7 z2 => ?_⟩⟩⟩
      have s57 := s6.trans s7
      refine rd_neTn (z1.on (.same s7)) z2 ⟨_, rfl, ?_⟩
      cases c : decide (tonT (tone l (ownN l.length)) t1 = tonT (tone l (ownN l.length)) t2) with
      | true =>
        rw [c] at ek
        exact iteF ⟨⟨_, rfl⟩, stay _ (Same.kept s57) s57 ek⟩
      | false =>
        rw [c, Bool.not_false, Bool.true_and] at ek
        have e7l := s57 _ _ e5l
        refine iteT ⟨_, rfl, _, rfl, rd_ixL e7l g1 ⟨_, rfl, _, rfl, ⟨h1, b, n, t1, l, ns, rfl, (r1.same s5).same s57, okT _ (at_mem f1), s57 _ _ (s5 _ _ eb), s57 _ _ (s5 _ _ en), ll, nd, l4, fun p3 H8 s8 z3 => ?_⟩⟩⟩
        refine ⟨_, rfl, _, rfl, rd_ixL (s8 _ _ e7l) g2 ⟨_, rfl, _, rfl, ⟨h2, b, n, t2, l, ns, rfl, ((r2.same s5).same s57).same s8, okT _ (at_mem f2), s8 _ _ (s57 _ _ (s5 _ _ eb)), s8 _ _ (s57 _ _ (s5 _ _ en)), ll, nd, l4, fun p4 H9 s9 z4 => ?_⟩⟩⟩
        have s79 := s8.trans s9
        have s59 := s57.trans s79
        refine rd_eqTn (z3.on (.same s9)) z4 ⟨_, rfl, ?_⟩
        cases c2 : decide (tonT (tone l ns) t1 = tonT (tone l ns) t2) with
        | false =>
          rw [c2] at ek
          exact iteF ⟨⟨_, rfl⟩, stay _ (Same.kept s59) s59 ek⟩
        | true =>
          rw [c2] at ek
          have eF9 := s59 _ _ eF5
          refine iteT ⟨_, rfl, .inl ⟨rfl, ys, SqL.of eF9⟩, _, rfl, _, rfl, by show 2 ≤ sizeLine; decide, fun t ht => ?_⟩
          have s10 := s59.trans (same_new ht (.tup [V.int (i : Nat), V.int (j : Nat)]))
          have eF10 := (same_new ht (.tup [V.int (i : Nat), V.int (j : Nat)])) _ _ eF9
          have et : upd H9 t (.tup [V.int (i : Nat), V.int (j : Nat)]) t = some (.tup [V.int (i : Nat), V.int (j : Nat)]) := upd_same
          have tF : t ≠ F0 := fun z => by rw [z, eF9] at ht; cases ht
          generalize upd H9 t (.tup [V.int (i : Nat), V.int (j : Nat)]) = H10 at s10 eF10 et ⊢
          have lys : ys.length ≤ 931 := by
            rw [aly.len]
            refine Nat.le_trans (List.length_filter_le _ _) ?_
            rw [List.length_append, List.length_take]
            have := len_rows ts.length i (by omega) (by omega)
            omega
          refine ⟨F0, ys, _, rfl, rfl, eF10, by rw [sizeLine_eq]; omega, ⟨_, rfl⟩, ?_⟩
          show M (List.filter LB _) _
          rw [tk, ek]
          refine ⟨(k5.trans (Same.kept s10)).trans kept_upd, ?_, ys ++ [.ref t], upd_same, ?_⟩
          · intro x o ex
            have e5 := s10 _ _ (s5 _ _ ex)
            rw [upd_ne fun z => by rw [z, F00] at ex; cases ex]
            exact e5
          · have aly2 : All2 (PrH (upd H10 F0 (.lst (ys ++ [.ref t])))) ys (((List.range i).flatMap (Cb.prow ts.length) ++ (Cb.prow ts.length i).take d).filter LB) := aly.imp fun _ _ r => (r.on (.same s10)).on fun z us ez => by
              rw [upd_ne fun y => by rw [y, eF10] at ez; cases ez]
              exact ez
            refine aly2.app (.cons ⟨t, rfl, by rw [upd_ne tF]; exact et⟩ .nil)
    rintro σ H4 ⟨⟨o5, o6, rfl⟩, _, s4, ys, eF4, aly⟩
    refine ⟨_, rfl, F0, ys, rfl, .inl ⟨SqL.of eF4, fun p hp => ?_⟩⟩
    have s5 := same_new hp (.tup ys)
    exact q p _ (s4.trans s5) ⟨ys, upd_same, aly.imp fun _ _ r => r.on (.same s5)⟩
end
end K6

/-! several clauses "except x as n", all with one name; repr of ints and None -/
namespace Ty
open PySem PySem.Spec PyProof.Rows L2
abbrev Cls := Addr → Value → Option Addr → TS
def offEnds (D : Ends) (i : Nat) : Ends := { nx := fun τ G => D.nx (τ.set i none) G, rt := D.rt, bk := fun τ G => D.bk (τ.set i none) G, ct := fun τ G => D.ct (τ.set i none) G }
/-- what the clauses wish, one behind the other -/
def wAsM (K : PySem.W.Frag) (Wout : WX) (D : Ends) (i m : Nat) : List (Value × Cls) → WX
  | [] => Wout
  | (c, ts) :: r => fun cls d τ G => ∃ b, PySem.W.exmOne K cls c = some b ∧ (b = true → ∀ z, G z = none → τ.length = m → ts z cls d (offEnds D i) (τ.set i (some (.ref z))) G) ∧ (b = false → wAsM K Wout D i m r cls d τ G)
inductive CsOk (X : Cx) (n : Str) : List ExceptHandler → List (Value × Cls) → Prop
  | nil : CsOk X n [] []
  | cons {x : Str} {c : Value} {ts : Cls} {b₁ : Stmt} {rest : List Stmt} {np pp : Pos} {hds : List ExceptHandler} {l : List (Value × Cls)} (nm : Names X x c)
      (su : ∀ (z : Addr) (oz : Obj) (cls : Value) (d : Option Addr) (pn : List (Addr × Obj)), Zc cls d oz → (∃ vs, oz.data = .fields vs) → PSs (X.suite z ((z, oz) :: pn)) (b₁ :: rest) (ts z cls d)) (r : CsOk X n hds l) :
      CsOk X n (.ExceptHandler (some (.Name x np)) (some n) (b₁ :: rest) pp :: hds) ((c, ts) :: l)
section
variable {X : Cx} {n : Str} {i : Nat} {body : List Stmt} {hd₀ : ExceptHandler} {hds : List ExceptHandler} {l : List (Value × Cls)} {pos : Pos} {tb : WX → TS} {Wout : WX}
theorem ps_try_asM (stk : X.stack = X.env :: X.outer) (frm : X.env.frame = some X.env.locals) (nd : X.N.Nodup) (at_i : X.N[i]? = some n) (lcl : X.env.kindOf n = some .local) (tk : Takes X Wout)
    (bd : ∀ (W : WX) (pn : List (Addr × Obj)) (xe : Value → Shared → Prop), Takes (X.tr pn xe) W → PassesOwn (model X.prog X.w) X.A X.env xe → PSs (X.tr pn xe) body (tb W))
    (cl : CsOk X n (hd₀ :: hds) l) : PS X (.Try body (hd₀ :: hds) [] [] pos) (fun D τ G => tb (wAsM X.K Wout D i X.N.length l) D τ G) := by
  refine ⟨fun pin s τ G D I hw => ?_⟩
  have okX := I.ok
  have frs_ : X.A.frames = some (X.env :: X.outer) := by rw [okX.frames, stk]
  have nloc : Loc X.env.scope n := .inl lcl
  refine wpAny_Try_except ?_
  refine wpAny_mono ((bd (wAsM X.K Wout D i X.N.length l) (X.pn ++ pin) (fun e u₁ => wpAny (model X.prog X.w) X.A (noteFrame e X.env) (fun _ u₂ => wpAny (model X.prog X.w) X.A (setFlight e none) (fun _ u₃ =>
    wpAny (model X.prog X.w) X.A (handleBy e X.env (hd₀ :: hds)) (SP X pin D) X.xe u₃) X.xe u₂) X.xe u₁) (fun u v xx => ?_) PassesOwn.looking).run [] s τ G D (I.toTry _) hw) (fun f s1 out => ?_) (fun _ _ z => z)
  · obtain ⟨z, B, sI, pin', τ', G', cls, d, rfl, J', nb, up, sky, na, os, ag, w⟩ := xx
    have J : Inv X pin τ' G' sI := J'.ofTry okX
    have sky2 : Sky B (X.env :: X.outer) z (Zc cls d) X.env.locals v.heap := by rw [← stk]; exact sky
    show wpAny (model X.prog X.w) X.A (noteFrame (.ref z) X.env) _ _ _
    refine Sky.land Zc.steady frs_ frm sky2 fun g3 fl3 up3 => ?_
    have J3 : Inv X pin τ' G' { v with heap := g3 } := J.landed nb fl3.1 (up.trans up3) os ag
    obtain ⟨oz3, _, ez3, hz3, dz3⟩ := fl3.there
    have away : z ∉ frs (X.env :: X.outer) := fun hm => by
      obtain ⟨_, o', e', nf⟩ := fl3.2.2.1.mem hm
      rw [ez3] at e'; cases e'
      exact nf _ dz3
    have nL : z ≠ X.env.locals := fun q => away (List.mem_filterMap.mpr ⟨X.env, List.mem_cons_self, by rw [frm, q]⟩)
    have nF : z ∉ X.fs := fun hm => by
      obtain ⟨e, he, q⟩ := List.mem_filterMap.mp hm
      exact away (List.mem_filterMap.mpr ⟨e, List.mem_cons_of_mem _ he, q⟩)
    have S3 := J3.suite ez3 dz3 na nL nF
    have walk : ∀ {hs' : List ExceptHandler} {l' : List (Value × Cls)}, CsOk X n hs' l' → wAsM X.K Wout D i X.N.length l' cls d τ' G' →
        wpAny (model X.prog X.w) X.A (handleBy (.ref z) X.env hs') (SP X pin D) X.xe { v with heap := g3 } := by
      intro hs' l' hk
      induction hk with
      | nil =>
        intro w
        refine wpAny_handleBy_nil ?_
        obtain ⟨_, _, _, oe, vs, T, oT, t2, he, hz, hd, h1, hr⟩ := id fl3
        unfold PySem.passOn
        refine wpAny_bind (wpAny_field he hd h1 ?_)
        rw [if_neg (show ¬ ((Value.ref T == Value.none) = true) from by simp)]
        have fin : wpAny (model X.prog X.w) X.A (setFlight (.ref z) X.env.frame) (fun _ u4 => wpAny (model X.prog X.w) X.A (throw (.ref z) : Sem Flow) (SP X pin D) X.xe u4) X.xe { v with heap := g3 } := by
          rw [frm]
          refine HandSPX.setFlight_upZ fl3 fun g4 hh4 up4 => wpAny_throw (tk _ _ ?_)
          exact ⟨z, B, sI, pin, τ', G', cls, d, rfl, J, nb, (up.trans up3).trans up4, .inr (.inr (by rw [stk]; exact hh4)), na, os, ag, w⟩
        first
          | exact wpAny_bind (wpAny_pure (wpAny_bind fin))
          | exact wpAny_bind fin
      | @cons x c ts b₁ rest np pp hds2 l2 nm su r ih =>
        intro w
        obtain ⟨b, is, yes, no⟩ := w
        refine wpAny_handleBy_cons (codeAny_handlers_test ?_) (by intro q; cases q)
        have LT : PySem.W.Looks (model X.prog X.w) g3 (typeOf (.ref z)) cls := fun A Q E u k q => wpAny_typeOf_ref (k _ _ ez3) (by rw [hz3.1]; exact q)
        have LM := PySem.W.exm_one (M := model X.prog X.w) (J3.kIn) LT is
        have look : ∀ {Q : Value → Shared → Prop} {E : Value → Shared → Prop}, Q c { v with heap := g3 } → wpAny (model X.prog X.w) (X.A.mark (some (.ref z))) (eval (.Name x np) X.env) Q E { v with heap := g3 } := fun {Q E} q => by
          obtain ⟨gl, db, h1 | ⟨h1, h2, h3⟩⟩ := nm
          · exact ld_glob (X := X.suite z ((z, oz3) :: (X.pn ++ pin))) S3 gl h1 q db
          · exact ld_blt (X := X.suite z ((z, oz3) :: (X.pn ++ pin))) S3 gl h1 h2 q h3 db
        refine look (LM.here ?_)
        cases b with
        | true =>
          refine codeAny_handlers_suite_as ?_
          refine HandSPX.lands_againZ fl3 fun g4 fl4 up4 => ?_
          have J4 : Inv X pin τ' G' { v with heap := g4 } := J.landed nb fl4.1 ((up.trans up3).trans up4) os ag
          obtain ⟨oz4, _, ez4, hz4, dz4⟩ := fl4.there
          have S4 := J4.suite ez4 dz4 na nL nF
          refine store_ok (X := X.suite z ((z, oz4) :: (X.pn ++ pin))) (v := .ref z) S4 nd at_i nloc rfl (fun s5 S5 => ?_) (.inr lcl)
          refine wpAny_mono ((su z oz4 cls d (X.pn ++ pin) hz4 ⟨_, dz4⟩).run [] s5 _ G' _ S5 (yes rfl z na J.len)) (fun f s6 q6 => ?_) (fun _ _ y => False.elim y)
          have gone : ∀ {τ6 : L2.St} {G6 : Hp} {Q : Shared → Prop}, Inv (X.suite z ((z, oz4) :: (X.pn ++ pin))) [] τ6 G6 s6 → (∀ s7, Inv X pin (τ6.set i none) G6 s7 → Q s7) →
              wpAny (model X.prog X.w) X.A (do bindName X.env n .none; unbindBehindTheSuite X.env n pp) (fun _ s7 => Q s7) X.xe s6 := fun {τ6 G6 Q} S6 hq => gone_ok (S6.unsuite okX) nd at_i lcl hq
          rcases f with _ | _ | _ | u
          · obtain ⟨_, _, S6, q⟩ := q6
            exact gone S6 fun s7 J7 => ⟨_, _, J7, q⟩
          · obtain ⟨_, _, S6, q⟩ := q6
            exact gone S6 fun s7 J7 => ⟨_, _, J7, q⟩
          · obtain ⟨_, _, S6, q⟩ := q6
            exact gone S6 fun s7 J7 => ⟨_, _, J7, q⟩
          · obtain ⟨_, _, _, S6, r6, q⟩ := q6
            exact gone S6 fun s7 J7 => ⟨_, _, _, J7, r6, q⟩
        | false =>
          show wpAny _ X.A (handleBy (.ref z) X.env hds2) _ _ _
          exact ih (no rfl)
    exact walk cl w
  · rcases f with _ | _ | _ | u
    · obtain ⟨_, _, J', q⟩ := out
      exact wpAny_execs_nil ⟨_, _, J'.ofTry okX, q⟩
    · obtain ⟨_, _, J', q⟩ := out
      exact ⟨_, _, J'.ofTry okX, q⟩
    · obtain ⟨_, _, J', q⟩ := out
      exact ⟨_, _, J'.ofTry okX, q⟩
    · obtain ⟨_, _, _, J', r, q⟩ := out
      exact ⟨_, _, _, J'.ofTry okX, r, q⟩
end
/-! ### repr of an int or None -/
def reprN : Option Int → Str
  | some k => Str.ofString (toString k)
  | none => Str.ofString "None"
def optI : Option Int → V
  | some k => .int k
  | none => .non
def rReprN : List V → Hp → VK → Prop := fun xs H Q => ∃ o : Option Int, xs = [optI o] ∧ (∀ k, o = some k → k.natAbs.log2 < 1920) ∧ Q (.str (reprN o)) H
theorem cr_reprN {X : Cx} : CallR X (.builtin "repr") rReprN := by
  intro pins s σ H xs us Q I r h
  obtain ⟨o, rfl, hb, q⟩ := h
  obtain ⟨u, rfl, ru⟩ := vals1 r
  cases o with
  | none =>
    cases (show u = Value.none from ru)
    exact P.repr_of_none ⟨.str _, H, I.tok _, ⟨_, rfl⟩, q⟩
  | some k =>
    obtain ⟨t, rfl⟩ := (show ∃ t, u = Value.int k t from ru)
    exact P.repr_of_int (hb k rfl) ⟨.str _, H, I.tok _, ⟨_, rfl⟩, q⟩
end Ty

namespace Xb
open PySem PySem.Spec PyProof.Rows L2
/-- isinstance of the caught error, whose own dict is known -/
structure IsC (K : PySem.W.Frag) (C : Addr) : Prop where
  cl : (PySem.W.clsIn K C).isSome = true
  ga : PySem.W.findIn K (.ref C) "__getattribute__" = some (some (.builtin "BaseException.__getattribute__"))
  gg : PySem.W.findIn K (.ref C) "__getattr__" = some none
  ex : PySem.W.subIn K (.ref C) (.type "BaseException") = some true
  c1 : PySem.W.findIn K (.ref C) "__class__" = some (some (.builtin "object.__class__"))
  c2 : PySem.W.specialIn K (.builtin "object.__class__") "__get__" = some (some (.builtin "getset_descriptor.__get__"))
  c3 : PySem.W.takesIn K (.builtin "object.__class__") = some true
  c4 : PySem.W.mroIn K C (.type "object") = some true
def rIsAt (K : PySem.W.Frag) (a : Addr) (cls : Value) (d : Option Addr) (C : Addr) : List V → Hp → VK → Prop := fun xs H Q => cls = .ref C ∧ ∃ (c : V) (cv : Value) (b : Bool) (dd : Addr) (fs : List (Str × V)), xs = [.ref a, c] ∧ d = some dd ∧ H dd = some (.xd fs) ∧ (∀ u, RelV c u → u = cv) ∧ PySem.W.kitOne K (.ref C) cv = some b ∧ Q (.bl b) H
theorem call_isAt {X : Cx} {a C : Addr} {cls : Value} {d : Option Addr} {oe : Obj} {pn : List (Addr × Obj)} (T : IsC X.K C) (hz : Zc cls d oe) (hf : ∃ vs, oe.data = .fields vs) : CallR (X.suite a ((a, oe) :: pn)) (.builtin "isinstance") (rIsAt X.K a cls d C) := by
  intro pins s σ H xs us Q I r h
  obtain ⟨rfl, c, cv, b, dd, fs, rfl, rfl, ea, hcv, e, q⟩ := h
  match us, r with
  | [_, _], .cons r1 (.cons r2 .nil) =>
    cases r1
    have ec := hcv _ r2
    subst ec
    have pin := (I.pin (a, oe) (List.mem_append.mpr (.inl List.mem_cons_self))).1
    obtain ⟨vs, hv⟩ := hf
    obtain ⟨mA, hns, _⟩ := (I.hok dd _ ea : ObjOk X.prog X.w H s.heap dd (.xd fs))
    obtain ⟨od, ho, _⟩ := lookIn_ns hns
    have J : PySem.W.InstAt s.heap a oe C (some od) := ⟨pin, hz.1, by unfold PySem.W.notCls; rw [hv] <;> rfl, by rw [hz.2]; exact ho⟩
    exact PySem.W.kia_one (PySem.W.kitx_exc T.cl T.ga T.gg T.ex T.c1 T.c2 T.c3 T.c4) I.kIn J e (by intro z; cases z) fun tk => ⟨.bl b, H, I.kept (t' := tk) fun _ _ z => z, rfl, q⟩
end Xb

namespace K6
open PySem PySem.Spec PyProof.Rows L2 Hb St Sq Ow En Zp RZ Rd Xb Da Lo Wa LamX Lc Lp Lg Ty
/-! ### _law_word -/
abbrev s__law_word : Stmt := top 49
theorem sc__law_word : FnScope ["work", "found", "e"] ["work"] (defScope s__law_word) := ⟨rfl, rfl, rfl, by decide +kernel, rfl, by decide +kernel, by decide +kernel⟩
/-- what a told error leaves: its number, or its word -/
def eWord (C D : Addr) (Q : VK) : XK := fun cls d H => ∃ dd : Addr, d = some dd ∧
  ((cls = .ref C ∧ ∃ k : Int, H dd = some (errH k) ∧ Q (.int k) H) ∨ (cls = .ref D ∧ ∃ x : Str, H dd = some (errW x) ∧ Q (.str x) H))
def TWord (C D : Addr) : (XK → Hp → VK → Prop) → Hp → VK → Prop := fun tl H Q => ∀ R : VK, (∀ v H1, Q (.str (Str.ofString "none")) H1 → R v H1) → tl (eWord C D Q) H R
theorem law_word_gives {X : Cx} {q : Str} {g C D fC fD : Addr} {cdg : Value} (T : ErrC X.K X.mg "InvalidHeard" C fC) (TS : Xw.ErrC X.K X.mg "InvalidSize" D fD) (eRC : PySem.W.exmOne X.K (.ref D) (.ref C) = some false) : GivesTo X ["work", "found", "e"] "_law_word" (defScope s__law_word) g cdg (defBody s__law_word) "work" q (TWord C D) := by
  intro f c' s H Q tl act hc h
  refine ⟨_, pss_cons (ps_set (i := 1) sc__law_word.nd rfl (Or.inl rfl) pe_str) (pss_cons (ps_try_asM (X := (cxOf C8.CX0 X.prog X.w X.K X.mg X.base ["work", "found", "e"] "_law_word" (defScope s__law_word) g cdg X.A X.stack s H C8.E0).nox) (i := 2) (n := "e")
      (l := [(.ref C, _), (.ref D, _)])
      (tb := fun W D σ H => ∃ Ech : XK, (∀ cls d σ' H', Ech cls d H' → W cls d σ' H') ∧ σ[0]? = some (some (.ref f)) ∧ H c' = some (CodeO c' q) ∧ tl Ech H fun _ H1 => D.nx σ H1)
      rfl rfl sc__law_word.nd rfl rfl LamX.takes0 (fun W pn xe tk _ => ?_)
      (.cons ⟨rfl, by decide, .inl T.gC⟩ (fun a oe cls d pn hz hf => pss_one (ps_set (i := 1) sc__law_word.nd rfl (Or.inl rfl) (pe_xf T.xf T.noN hz hf (pv 2))))
        (.cons ⟨rfl, by decide, .inl TS.gC⟩ (fun a oe cls d pn hz hf => pss_one (ps_set (i := 1) sc__law_word.nd rfl (Or.inl rfl) (pe_xf TS.xf TS.noN hz hf (pv 2)))) .nil))) (pss_one (ps_ret (pv 1)))), ?_⟩
  · refine ⟨fun pins s' σ H' D I h' => ?_⟩
    obtain ⟨Ech, hW, h1, h2, h3⟩ := h'
    exact (pss_one (ps_expr (act W pn xe Ech _ _ tk hW))).run pins s' σ H' D I ⟨h1, h2, h3⟩
  · refine ⟨eWord C D Q, fun cls d σ' H' he => ?_, rfl, hc, h _ fun v H1 hq => ⟨_, rfl, hq⟩⟩
    obtain ⟨dd, rfl, ⟨rfl, k, ed, hq⟩ | ⟨rfl, x, ed, hq⟩⟩ := he
    · refine ⟨true, T.te, fun _ z hz ln => ?_, fun y => (by cases y)⟩
      match σ', ln with
      | [o0, o1, o2], _ =>
        exact ⟨_, rfl, rfl, rfl, dd, _, .int k, rfl, ed, rfl, _, rfl, hq⟩
    · refine ⟨false, eRC, fun y => (by cases y), fun _ => ⟨true, TS.te, fun _ z hz ln => ?_, fun y => (by cases y)⟩⟩
      match σ', ln with
      | [o0, o1, o2], _ =>
        exact ⟨_, rfl, rfl, rfl, dd, _, .str x, rfl, ed, rfl, _, rfl, hq⟩
end K6

/-! a tuple * a number that is not negative -/
namespace Tm
open PySem PySem.Spec PyProof.Rows L2 Hb Ty
theorem tuple_mul1 (l : Addr) (items : Array Value) (n : Nat) (dd : Option Addr) (sl : Array (Option Value)) (u : Tok) :
    Meets (Builtin.«tuple.__mul__» ⟨[.ref l, .int 1 u], []⟩) (fun _ R s => s.heap.get? l = some { cls := .type "tuple", dict := dd, data := .seq items n, slots := sl } ∧ R (.ok (.ret (Value.ref l))) s) :=
  .of_wp fun prog w A R s h => by
    obtain ⟨hp, g, d, tk, os⟩ := s
    obtain ⟨hl, h⟩ := h
    have f1 := AutoSeq1.idx_int
    wp_walk using wpAny_loadPart' hl
    repeat (first
      | (refine wpAny_ite_false (by decide) ?_; wp_walk using wpAny_loadPart' hl)
      | (refine wpAny_ite_true (by simp) ?_; wp_walk using wpAny_loadPart' hl))
    exact ⟨_, rfl, h⟩
theorem tuple_mul0 (l : Addr) (items : Array Value) (n : Nat) (dd : Option Addr) (sl : Array (Option Value)) (u : Tok) (hi : items.isEmpty = false) :
    Meets (Builtin.«tuple.__mul__» ⟨[.ref l, .int 0 u], []⟩) (fun _ R s => s.heap.get? l = some { cls := .type "tuple", dict := dd, data := .seq items n, slots := sl } ∧
      R (.ok (.ret (Value.ref s.heap.objs.size))) { s with heap := s.heap.push { cls := Value.type "tuple", data := Data.seq #[] }, toks := s.toks }) :=
  .of_wp fun prog w A R s h => by
    obtain ⟨hp, g, d, tk, os⟩ := s
    obtain ⟨hl, h⟩ := h
    have f1 := AutoSeq1.idx_int
    wp_walk using wpAny_loadPart' hl
    repeat (first
      | (refine wpAny_ite_false (by decide) ?_; wp_walk using wpAny_loadPart' hl)
      | (refine wpAny_ite_false (by rw [hi]; decide) ?_; wp_walk using wpAny_loadPart' hl)
      | (refine wpAny_ite_true (by simp) ?_; wp_walk using wpAny_loadPart' hl))
    exact ⟨_, rfl, h⟩
def rRepTA (K : PySem.W.Frag) : R2 := fun x y H Q => ∃ l k xs, x = .ref l ∧ y = .int k ∧ SqT K H l xs ∧ xs ≠ [] ∧ 0 ≤ k ∧ k ≤ 1000 ∧ xs.length ≤ 1000 ∧ (k = 1 → Q (.ref l) H) ∧ (k ≠ 1 → ∀ p, H p = none → Q (.ref p) (upd H p (.tup (List.replicate k.toNat xs).flatten)))
theorem op_repTA {X : Cx} : OpR X (binaryOp .Mult) (rRepTA X.K) := by
  intro pins s σ H x y v u Q I rx ry h
  obtain ⟨l, k, xs, rfl, rfl, hT, hne, h0, h2, hz, q1, q⟩ := h
  by_cases k2 : 2 ≤ k
  · exact op_repT (X := X) pins s σ H _ _ v u Q I rx ry ⟨l, k, xs, rfl, rfl, hT, hne, k2, h2, hz, q (by omega)⟩
  cases rx
  obtain ⟨t, rfl⟩ := ry
  obtain ⟨its, r, ⟨⟨cls, dd, data, sl⟩, ho, hc, n, hd⟩, hs⟩ := I.tuple hT
  simp only at hc hd
  subst hc hd
  have hle : its.length = xs.length := r.length.symm
  have hn : its ≠ [] := fun e => hne (by
    rw [e] at hle
    exact List.eq_nil_of_length_eq_zero hle.symm)
  have hi : its.toArray.isEmpty = false := by
    cases its with
    | nil => exact absurd rfl hn
    | cons a b => rfl
  have k01 : k = 0 ∨ k = 1 := by omega
  rcases k01 with rfl | rfl
  · refine wpAny_binaryOp_repeat_ref (T := "tuple") (U := "int") (by decide) ⟨_, ho, rfl⟩ (fun s' => typeIs_int s' 0 t) noFill_tuple_mul F.fills_int_mul F.slot_int_rmul repeat_tuple F.slot_int_index.lookup
      (call_meets F.slot_int_rmul (typeIs_int s 0 t) F.entry_int_rmul (F.args_int_rmul_2 _ _) (int_rmul_tuple 0 t l its.toArray n dd sl)
        ⟨ho, rfl, ⟨_, ho, rfl⟩, call_meets F.slot_tuple_mul ⟨_, ho, rfl⟩ F.entry_tuple_mul (F.args_tuple_mul_2 _ _) (tuple_mul0 l its.toArray n dd sl t hi) ⟨ho, ?_⟩⟩)
    refine ⟨.ref s.heap.objs.size, _, I.laid (t' := s.toks) (o := .tup []) (fun b ob q => Heap.get?_push_of_some _ q) (Nat.le_refl _) ?_, rfl, q (by decide) _ (I.hok.fresh (Nat.le_refl _))⟩
    exact ⟨by show 0 ≤ sizeLine; decide, [], .nil, IsTup.new _ _⟩
  · refine wpAny_binaryOp_repeat_ref (T := "tuple") (U := "int") (by decide) ⟨_, ho, rfl⟩ (fun s' => typeIs_int s' 1 t) noFill_tuple_mul F.fills_int_mul F.slot_int_rmul repeat_tuple F.slot_int_index.lookup
      (call_meets F.slot_int_rmul (typeIs_int s 1 t) F.entry_int_rmul (F.args_int_rmul_2 _ _) (int_rmul_tuple 1 t l its.toArray n dd sl)
        ⟨ho, rfl, ⟨_, ho, rfl⟩, call_meets F.slot_tuple_mul ⟨_, ho, rfl⟩ F.entry_tuple_mul (F.args_tuple_mul_2 _ _) (tuple_mul1 l its.toArray n dd sl t) ⟨ho, ?_⟩⟩)
    exact ⟨.ref l, H, I, rfl, q1 rfl⟩
/-! repr of an int or a text -/
inductive Wd where
  | num (k : Int)
  | word (x : Str)
def Wd.v : Wd → V
  | .num k => .int k
  | .word x => .str x
def Wd.r : Wd → Str
  | .num k => Str.ofString (toString k)
  | .word x => reprText x
def Wd.fits : Wd → Prop
  | .num k => k.natAbs.log2 < 1920
  | .word x => (reprText x).length ≤ sizeLine
def rReprU : List V → Hp → VK → Prop := fun xs H Q => ∃ d : Wd, xs = [d.v] ∧ d.fits ∧ Q (.str d.r) H
theorem cr_reprU {X : Cx} : CallR X (.builtin "repr") rReprU := by
  intro pins s σ H xs us Q I r h
  obtain ⟨o, rfl, hb, q⟩ := h
  obtain ⟨u, rfl, ru⟩ := vals1 r
  cases o with
  | word x =>
    obtain ⟨t, rfl⟩ := (show ∃ t, u = Value.str x t from ru)
    exact P.repr_of_str ⟨.str _, H, I.tok _, ⟨_, rfl⟩, q⟩ hb
  | num k =>
    obtain ⟨t, rfl⟩ := (show ∃ t, u = Value.int k t from ru)
    exact P.repr_of_int hb ⟨.str _, H, I.tok _, ⟨_, rfl⟩, q⟩
end Tm

namespace K6
open PySem PySem.Spec PyProof.Rows L2 Hb St Sq Ow En Zp RZ Rd Xb Da Lo Wa LamX Lc Lp Lg Ty Tm
abbrev s__law_refused_right : Stmt := top 50
theorem sc__law_refused_right : FnScope ["box", "tales", "bells", "naming", "at", "none", "spoilt", "wrong", "bad", "spot", "due", "ears", "first", "lots", "some", "work"] ["box", "tales", "bells", "naming"] (defScope s__law_refused_right) := ⟨rfl, rfl, rfl, by decide +kernel, rfl, by decide +kernel, by decide +kernel⟩
abbrev qRef : Str := (envOfC "_law_refused_right" (defScope s__law_refused_right) 0 0 .none).qual ++ "<lambda>"
theorem nd_bl {K : PySem.W.Frag} {p : Addr} {H : Hp} (b : Bool) : Nd K p H (.bl b) (.bool b) := fun _ _ => .bl b
theorem nd_tal {K : PySem.W.Frag} {p : Addr} {H : Hp} {v : V} {t : Tale} (hb : BoxAt H p) (h : TalH H v t) : Nd K p H v (tD t) := by
  obtain ⟨a, its, rfl, e, al⟩ := h
  exact .tup e hb (nd_lots hb al)
theorem nd_tals {K : PySem.W.Frag} {p : Addr} {H : Hp} (hb : BoxAt H p) : ∀ {its : List V} {ts : List Tale}, All2 (TalH H) its ts → All2 (Nd K p H) its (ts.map tD)
  | _, _, .nil => .nil
  | _, _, .cons h t => .cons (nd_tal hb h) (nd_tals hb t)
theorem first_n {d : PyData} {r : List PyData} (hd : taleD d = false) : ∀ {as : List PyData}, (∀ a ∈ as, taleD a = true) → firstNo (as ++ d :: r) = some as.length
  | [], _ => by
    unfold firstNo
    rw [List.nil_append, List.findIdx?_cons, hd]; rfl
  | a :: as, h => by
    have ih := first_n hd (as := as) (r := r) fun b m => h b (.tail _ m)
    unfold firstNo at ih ⊢
    rw [List.cons_append, List.findIdx?_cons, h a (.head _), ih]; rfl
section
variable {K : PySem.W.Frag} {H : Hp} {Q : VK}
theorem rd_slG {a : Addr} {its : List V} (i j : Option Nat) {lo hi : Option Int} (elo : lo = i.map fun n => ((n : Nat) : Int)) (ehi : hi = j.map fun n => ((n : Nat) : Int)) (e : H a = some (.lst its)) (q : ∀ p H', H p = none → Same H H' → H' p = some (.lst (cutN its i j)) → Q (.ref p) H') : rSlL K (.ref a) lo hi H Q := by
  subst elo ehi
  refine ⟨a, its, rfl, SqL.of e, fun p hp => ?_⟩
  rw [cutV_N]
  exact q p _ hp (same_new hp _) upd_same
theorem rd_catG {a b : Addr} {xs ys : List V} (h1 : H a = some (.lst xs)) (h2 : H b = some (.lst ys)) (l : xs.length + ys.length ≤ 1000) (q : ∀ p H', H p = none → Same H H' → H' p = some (.lst (xs ++ ys)) → Q (.ref p) H') : rCat (.ref a) (.ref b) H Q :=
  ⟨a, b, xs, ys, rfl, rfl, h1, h2, by rw [sizeLine_eq]; omega, fun p hp => q p _ hp (same_new hp _) upd_same⟩
end
theorem rd_repT {K : PySem.W.Frag} {H : Hp} {Q : VK} {a : Addr} {xs : List V} {k : Nat} (h : H a = some (.tup xs)) (hne : xs ≠ []) (hk : k ≤ 1000) (hl : xs.length ≤ 1000) (q : ∀ p H', Same H H' → H' p = some (.tup (List.replicate k xs).flatten) → Q (.ref p) H') : rRepTA K (.ref a) (.int (k : Nat)) H Q :=
  ⟨a, (k : Nat), xs, rfl, rfl, SqT.of h, hne, by omega, by omega, hl, fun e => by
    obtain rfl : k = 1 := by omega
    exact q a H (Same.refl _) (by rw [h]; simp), fun _ p hp => q p _ (same_new hp _) upd_same⟩
theorem nd_ints {K : PySem.W.Frag} {p : Addr} {H : Hp} : ∀ l : List Int, All2 (Nd K p H) (l.map V.int) (l.map PyData.int)
  | [] => .nil
  | i :: l => .cons (nd_int i) (nd_ints l)
theorem nd_nons {K : PySem.W.Frag} {p : Addr} {H : Hp} : ∀ n : Nat, All2 (Nd K p H) (List.replicate n V.non) (List.replicate n PyData.none)
  | 0 => .nil
  | n + 1 => .cons nd_non (nd_nons n)
theorem rep_non (n : Nat) : (List.replicate n [V.non]).flatten = List.replicate n V.non := by
  induction n with
  | zero => rfl
  | succ n ih => rw [List.replicate_succ, List.flatten_cons, ih]; rfl
/-- two values that no wish takes: no tales, or tales and no bells -/
def spRef2 (K : PySem.W.Frag) (C D : Addr) : Sp := fun vs H _ E => ∃ (v u : V) (d e : PyData) (ts : List Tale) (l : Lot), vs = [v, u] ∧ Tls K H v d ts ∧ Bel K H u e l ∧ (toldE d = none → nlD e = true → False) ∧ (∀ k, toldE d = some k → ErrA C H E k) ∧ (toldE d = none → nlD e = false → ErrW D H E (Str.ofString "bells"))
theorem ref_wish {K : PySem.W.Frag} {C D : Addr} {res : List Tale → Lot → List Nam} {vs : List V} {H : Hp} {Q : VK} {E : XK} (h : spRef2 K C D vs H Q E) : spWish2 K C D res vs H Q E := by
  obtain ⟨v, u, d, e, ts, l, ev, tl, be, no, a, b⟩ := h
  exact ⟨v, u, d, e, ts, l, ev, tl, be, fun x y => (no x y).elim, a, b⟩
theorem ref_few {K : PySem.W.Frag} {C D : Addr} {vs : List V} {H : Hp} {Q : VK} {E : XK} (h : spRef2 K C D vs H Q E) : spFew K C D vs H Q E := by
  obtain ⟨v, u, d, e, ts, l, ev, tl, be, no, a, b⟩ := h
  exact ⟨v, u, d, e, ts, l, ev, tl, be, fun x y => (no x y).elim, a, b⟩
def bW : Str := Str.ofString "bells"
def nW : Str := Str.ofString "naming"
theorem lam1 {K : PySem.W.Frag} {C D : Addr} {H : Hp} {Q R : VK} {v u x : V} {d e g : PyData} {ts : List Tale} {l : Lot} {ns : List Int} {due : Wd} (tl : Tls K H v d ts) (er : Ears K H u x e g l ns) (h1 : ∀ k, toldE d = some k → due = .num k) (h2 : toldE d = none → nlD e = false → due = .word bW) (h3 : toldE d = none → nlD e = true → namD l.length g = false ∧ due = .word nW) (q : ∀ H', Same H H' → Q due.v H') : spUPairs K C D [v, u, x] H R (eWord C D Q) :=
  ⟨v, u, x, d, e, g, ts, l, ns, rfl, tl, er, fun a b c => (by rw [(h3 a b).1] at c; cases c), fun k hk dd H' s ed => ⟨dd, rfl, .inl ⟨rfl, k, ed, by have := q H' s; rw [h1 k hk] at this; exact this⟩⟩, fun a b dd H' s ed => ⟨dd, rfl, .inr ⟨rfl, _, ed, by have := q H' s; rw [h2 a b] at this; exact this⟩⟩, fun a b _ dd H' s ed => ⟨dd, rfl, .inr ⟨rfl, _, ed, by have := q H' s; rw [(h3 a b).2] at this; exact this⟩⟩⟩
theorem lam2 {K : PySem.W.Frag} {C D : Addr} {H : Hp} {Q R : VK} {v u x : V} {d e g : PyData} {t : Tale} {l : Lot} {ns : List Int} {due : Wd} (dv : Dp K H v d) (s2 : Sm2 d) (ok : taleD d = true → TalH H v t ∧ TlOk t ∧ ∀ m ∈ t, m.length < 64) (er : Ears K H u x e g l ns) (h1 : taleD d = false → due = .num 0) (h2 : taleD d = true → nlD e = false → due = .word bW) (h3 : taleD d = true → nlD e = true → namD l.length g = false ∧ due = .word nW) (q : ∀ H', Same H H' → Q due.v H') : spHeardD K C D [v, u, x] H R (eWord C D Q) :=
  ⟨v, u, x, d, e, g, t, l, ns, rfl, dv, s2, ok, er, fun a b c => (by rw [(h3 a b).1] at c; cases c), fun hk dd H' s ed => ⟨dd, rfl, .inl ⟨rfl, 0, ed, by have := q H' s; rw [h1 hk] at this; exact this⟩⟩, fun a b dd H' s ed => ⟨dd, rfl, .inr ⟨rfl, _, ed, by have := q H' s; rw [h2 a b] at this; exact this⟩⟩, fun a b _ dd H' s ed => ⟨dd, rfl, .inr ⟨rfl, _, ed, by have := q H' s; rw [(h3 a b).2] at this; exact this⟩⟩⟩
theorem lam3 {K : PySem.W.Frag} {C D : Addr} {H : Hp} {Q R : VK} {v u : V} {d e : PyData} {ts : List Tale} {l : Lot} {due : Wd} (tl : Tls K H v d ts) (be : Bel K H u e l) (h1 : ∀ k, toldE d = some k → due = .num k) (h2 : toldE d = none → nlD e = false ∧ due = .word bW) (q : ∀ H', Same H H' → Q due.v H') : spRef2 K C D [v, u] H R (eWord C D Q) :=
  ⟨v, u, d, e, ts, l, rfl, tl, be, fun a b => (by rw [(h2 a).1] at b; cases b), fun k hk dd H' s ed => ⟨dd, rfl, .inl ⟨rfl, k, ed, by have := q H' s; rw [h1 k hk] at this; exact this⟩⟩, fun a _ dd H' s ed => ⟨dd, rfl, .inr ⟨rfl, _, ed, by have := q H' s; rw [(h2 a).2] at this; exact this⟩⟩⟩
theorem eqvAll_len : ∀ {a b : List PyData}, a.length ≠ b.length → PyData.eqvAll a b = false
  | [], [], h => absurd rfl h
  | [], _ :: _, _ => rfl
  | _ :: _, [], _ => rfl
  | x :: a, y :: b, h => by
    show (PyData.eqv x y && PyData.eqvAll a b) = false
    rw [eqvAll_len (a := a) (b := b) (fun e => h (by rw [List.length_cons, List.length_cons, e])), Bool.and_false]
theorem fits_b : (Wd.word bW).fits := by show (reprText bW).length ≤ sizeLine; decide +kernel
theorem fits_n : (Wd.word nW).fits := by show (reprText nW).length ≤ sizeLine; decide +kernel
theorem fits_k {k : Int} (h : k.natAbs ≤ 100) : (Wd.num k).fits := by
  show k.natAbs.log2 < 1920
  have := Nat.log2_le_self k.natAbs
  omega
section
variable {P : Program} {w : World} {K : PySem.W.Frag} {mg : Str → Option Value} {base : Heap}
def spRefus (Pt : Addr) : Sp := fun vs H Q _ => ∃ (p l lb nb : Addr) (its : List V) (ts : List Tale) (ns bs : List Str) (nm : Nam), vs = [.ref p, .ref l, .ref lb, .ref nb] ∧ BoxAt H p ∧ H Pt = some (.tbl #[]) ∧ H l = some (.lst its) ∧ l ≠ p ∧ All2 (TalH H) its ts ∧ NsOk ns ∧ (∀ t ∈ ts, TlIn ns t ∧ TlOk t ∧ t.length ≤ 100) ∧ (1 ≤ ts.length ∧ ts.length ≤ 4) ∧ H lb = some (.tup (bs.map V.str)) ∧ (∀ x ∈ bs, IsNm x) ∧ bs.Pairwise sLt ∧ bs.length ≤ 4 ∧ H nb = some (.tup (nm.map V.int)) ∧ nm.length = bs.length ∧ (∀ x ∈ nm, 0 ≤ x ∧ x ≤ 10 ^ 20) ∧ ∀ H', Q (.bl true) H'
theorem ok_refus {f c Pt C D fC fD f1 f2 f3 g : Addr} {fdg : FuncData} {oc : Value} {od an : Option Addr} {osl : Array (Option Value)} {kV doc pm ct : Value}
    (lk : K.lookup f = some ⟨oc, od, .func (PySem.W.fnOf "_law_refused_right" "_law_refused_right" (defArgs s__law_refused_right) (defBody s__law_refused_right) (defScope s__law_refused_right) .none kV doc pm an (.ref c) ct), osl⟩) (cd : PySem.W.codeIn K (.ref c) "_law_refused_right" = true) (TB : TabB base mg c Pt)
    (Fg : Fun K "_law_word" "_law_word" s__law_word g fdg) (bg0 : Binds K fdg ["work"] []) (mword : mg "_law_word" = some (.ref g)) (Te : ErrC K mg "InvalidHeard" C fC) (TS : Xw.ErrC K mg "InvalidSize" D fD) (eRC : PySem.W.exmOne K (.ref D) (.ref C) = some false)
    (g1 : mg "coarsest_namings" = some (.ref f1)) (g2 : mg "finest_deaf" = some (.ref f2)) (g3 : mg "fewest_tones" = some (.ref f3)) (D1 : DfX P w K mg base 7 f1 (spRef2 K C D)) (D2 : DfX P w K mg base 7 f2 (spRef2 K C D)) (D3 : DfX P w K mg base 7 f3 (spRef2 K C D))
    (C_unheard_pairs : Cx_ P w K mg base "unheard_pairs" ["tales", "bells", "naming"] 7 (spUPairs K C D)) (C_heard_tones : Cx_ P w K mg base "heard_tones" ["lots", "bells", "naming"] 5 (spHeardD K C D))
    (C__law_pick : Cl P w K mg base "_law_pick" ["box", "some"] [] 2 (spPick K)) (C__law_take : Cl P w K mg base "_law_take" ["box", "many"] [] 1 spTake) (n_tuple : mg "tuple" = none) (n_list : mg "list" = none) (n_len : mg "len" = none) (n_repr : mg "repr" = none) :
    FnOk P w K mg base CX0 10 f (PySem.W.fnOf "_law_refused_right" "_law_refused_right" (defArgs s__law_refused_right) (defBody s__law_refused_right) (defScope s__law_refused_right) .none kV doc pm an (.ref c) ct) ["box", "tales", "bells", "naming"] (spRefus Pt) := by
  obtain ⟨⟨ocg, odg, kVg, docg, pmg, ang, cdvg, ctg, oslg, rfl, lkg, cdg'⟩, kpg⟩ := Fg
  have bg := bg0
  refine okC lk cd sc__law_refused_right (fun vs H Q E h => ?_) (fun A outer s H vs Q E hr h => ?_)
  · obtain ⟨_, _, _, _, _, _, _, _, _, rfl, _⟩ := h
    rfl
  · obtain ⟨p, l, lb, nb, its, ts, ns, bs, nm, rfl, hb, ePt, el, lp, al, nok, inT, l4, elb, bnm, bas, b4, enb, ln, nm0, q⟩ := h
    refine ⟨_, (pss_cons (ps_par (i := 4) (j := 5) (by rfl) sc__law_refused_right.nd rfl rfl (by decide) rfl rfl (pa_cons (pe_use C__law_take (hr.mono (by decide)) rfl (pa_cons (pv 0) (pa_cons (pe_op op_add (pe_callB call_len_seq (by rfl) n_len PySem.boot_len (pa_cons (pv 1) pa_nil)) pe_int) pa_nil))) (pa_cons (pe_use C__law_pick (hr.mono (by decide)) rfl (pa_cons (pv 0) (pa_cons (pe_lst (pa_cons pe_non (pa_cons pe_int (pa_cons pe_str (pa_cons (pe_lst (pa_cons pe_str pa_nil)) (pa_cons (pe_tup (pa_cons (pe_tup (pa_cons pe_str pa_nil)) (pa_cons (pe_tup (pa_cons pe_str (pa_cons pe_str pa_nil))) (pa_cons pe_int pa_nil)))) (pa_cons (pe_tup (pa_cons (pe_tup pa_nil) pa_nil)) pa_nil))))))) pa_nil))) pa_nil)) (by rfl))
    (pss_cons (ps_par (i := 6) (j := 7) (by rfl) sc__law_refused_right.nd rfl rfl (by decide) rfl rfl (pa_cons (pe_op op_cat (pe_op op_cat (pe_slice (r := rSlL K) sl_list (pv 1) po_none (po_some (pv 4))) (pe_lst (pa_cons (pv 5) pa_nil))) (pe_slice (r := rSlL K) sl_list (pv 1) (po_some (pv 4)) po_none)) (pa_cons (pe_use C__law_pick (hr.mono (by decide)) rfl (pa_cons (pv 0) (pa_cons (pe_lst (pa_cons pe_non (pa_cons pe_str (pa_cons (pe_lst (pa_cons pe_str pa_nil)) (pa_cons (pe_tup (pa_cons pe_str (pa_cons pe_str pa_nil))) (pa_cons (pe_tup (pa_cons pe_str (pa_cons pe_str pa_nil))) (pa_cons (pe_tup (pa_cons pe_str pa_nil)) (pa_cons (pe_tup (pa_cons pe_str pa_nil)) (pa_cons (pe_tup (pa_cons pe_int pa_nil)) pa_nil))))))))) pa_nil))) pa_nil)) (by rfl))
    (pss_cons (ps_set (i := 8) sc__law_refused_right.nd rfl (Or.inl rfl) (pe_use C__law_pick (hr.mono (by decide)) rfl (pa_cons (pv 0) (pa_cons (pe_lst (pa_cons pe_non (pa_cons (pe_callTy call_list_of (by rfl) n_list (by decide +kernel) (pa_cons (pv 3) pa_nil)) (pa_cons (pe_op op_catA (pv 3) (pe_tup (pa_cons pe_int pa_nil))) (pa_cons (pe_op op_catA (pe_slice (r := rSlA K) sl_tupA (pv 3) (po_some pe_int) po_none) (pe_tup (pa_cons (pe_op op_sub pe_int pe_int) pa_nil))) (pa_cons (pe_op op_catA (pe_op Tm.op_repTA (pe_tup (pa_cons pe_non pa_nil)) (pe_callB call_len_seq (by rfl) n_len PySem.boot_len (pa_cons (pv 2) pa_nil))) (pe_tup (pa_cons pe_int pa_nil))) (pa_cons pe_str (pa_cons pe_int pa_nil)))))))) pa_nil))))
    (Evl.pss_cut (ps_if (PW.pt (pw_and (pt_cmpR (op_neD hr.units) (pv 2) (pe_tup pa_nil) (nomark _)) (pw_and1 (pt_cmpR op_eq (pe_use C__law_take (hr.mono (by decide)) rfl (pa_cons (pv 0) (pa_cons pe_int pa_nil))) pe_int (nomark _))))) (pss_cons (ps_set (i := 9) sc__law_refused_right.nd rfl (Or.inl rfl) (pe_use C__law_take (hr.mono (by decide)) rfl (pa_cons (pv 0) (pa_cons (pe_callB call_len_seq (by rfl) n_len PySem.boot_len (pa_cons (pv 2) pa_nil)) pa_nil))))
    (pss_one (ps_set (i := 8) sc__law_refused_right.nd rfl (Or.inl rfl) (pe_op op_catA (pe_op op_catA (pe_slice (r := rSlA K) sl_tupA (pv 3) po_none (po_some (pv 9))) (pe_tup (pa_cons (pe_use C__law_pick (hr.mono (by decide)) rfl (pa_cons (pv 0) (pa_cons (pe_lst (pa_cons pe_bl (pa_cons pe_bl (pa_cons pe_str (pa_cons pe_non (pa_cons (pe_op op_sub pe_int pe_int) (pa_cons (pe_tup (pa_cons pe_int pa_nil)) pa_nil))))))) pa_nil))) pa_nil))) (pe_slice (r := rSlA K) sl_tupA (pv 3) (po_some (pe_op op_add (pv 9) pe_int)) po_none))))) pss_nil)
    (Evl.pss_cut (ps_for PassesOwn.never rfl (pi_seq (pe_tup (pa_cons (pe_tup (pa_cons (pv 6) (pa_cons (pv 7) (pa_cons (pv 8) (pa_cons (pv 4) pa_nil))))) (pa_cons (pe_tup (pa_cons (pv 1) (pa_cons (pv 7) (pa_cons (pv 8) (pa_cons pe_str pa_nil))))) (pa_cons (pe_tup (pa_cons (pv 1) (pa_cons (pv 2) (pa_cons (pv 8) (pa_cons pe_str pa_nil))))) pa_nil))))) (pg_tup rfl (pgs_cons (pg_name (i := 14) sc__law_refused_right.nd rfl (Or.inr rfl)) (pgs_cons (pg_name (i := 13) sc__law_refused_right.nd rfl (Or.inr rfl)) (pgs_cons (pg_name (i := 11) sc__law_refused_right.nd rfl (Or.inr rfl)) (pgs_cons (pg_name (i := 10) sc__law_refused_right.nd rfl (Or.inl rfl)) pgs_nil)))))
      (Evl.pss_cut (ps_if (pt_cmpR op_ne (pe_callB Tm.cr_reprU (by rfl) n_repr (by decide +kernel) (pa_cons (pe_lamcall (T := [(Pt, qRef)]) (t := fun E => tCallS (spUPairs K C D) (fun _ => E) (tCons (tVar 14) (tCons (tVar 13) (tCons (tVar 11) tNil)))) (TT := TWord C D) (k := 7) (a := "work") (Ng := ["work", "found", "e"]) rfl mword kpg lkg cdg' bg sc__law_word rfl (.inl rfl) (law_word_gives Te TS eRC) TB rfl (List.mem_singleton.mpr rfl) (fun p hp _ => by rw [List.mem_singleton.mp hp] <;> rfl) (hr.mono (by decide)) (lamS_by rfl) rfl (fun _ _ _ _ _ => rfl) (fun A outer s H E f c1 hr2 => pe_useX (E := fun _ => E) C_unheard_pairs hr2 (fun σ => passAt (takes_of rfl rfl rfl rfl) σ) rfl (pa_cons (pv 14) (pa_cons (pv 13) (pa_cons (pv 11) pa_nil))))) pa_nil)) (pe_callB Tm.cr_reprU (by rfl) n_repr (by decide +kernel) (pa_cons (pv 10) pa_nil)) (nomark _)) (pss_one (ps_ret pe_bl)) pss_nil)
    (Evl.pss_cut (ps_set (i := 12) sc__law_refused_right.nd rfl (Or.inr rfl) (pe_ifExp (pt_cmpR (op_neD hr.units) (pv 14) (pv 1) (nomark _)) (pv 5) (pe_ix ix_list (pv 1) pe_int (fun _ _ => rfl))))
    (pss_one (ps_if (pt_cmpR op_ne (pe_callB Tm.cr_reprU (by rfl) n_repr (by decide +kernel) (pa_cons (pe_lamcall (T := [(Pt, qRef)]) (t := fun E => tCallS (spHeardD K C D) (fun _ => E) (tCons (tVar 12) (tCons (tVar 13) (tCons (tVar 11) tNil)))) (TT := TWord C D) (k := 7) (a := "work") (Ng := ["work", "found", "e"]) rfl mword kpg lkg cdg' bg sc__law_word rfl (.inl rfl) (law_word_gives Te TS eRC) TB rfl (List.mem_singleton.mpr rfl) (fun p hp _ => by rw [List.mem_singleton.mp hp] <;> rfl) (hr.mono (by decide)) (lamS_by rfl) rfl (fun _ _ _ _ _ => rfl) (fun A outer s H E f c1 hr2 => pe_useX (E := fun _ => E) C_heard_tones (hr2.mono (by decide)) (fun σ => passAt (takes_of rfl rfl rfl rfl) σ) rfl (pa_cons (pv 12) (pa_cons (pv 13) (pa_cons (pv 11) pa_nil))))) pa_nil)) (pe_callB Tm.cr_reprU (by rfl) n_repr (by decide +kernel) (pa_cons (pe_ifExp (pt_cmpR (op_neD hr.units) (pv 14) (pv 1) (nomark _)) pe_int (pv 10)) pa_nil)) (nomark _)) (pss_one (ps_ret pe_bl)) pss_nil)))))
    (Evl.pss_cut (ps_for PassesOwn.never rfl (pi_seq (pe_tup (pa_cons (pe_glob (v := .ref f1) (by rfl) g1 rfl) (pa_cons (pe_glob (v := .ref f2) (by rfl) g2 rfl) (pa_cons (pe_glob (v := .ref f3) (by rfl) g3 rfl) pa_nil))))) (pg_name (i := 15) sc__law_refused_right.nd rfl (Or.inr rfl))
      (pss_one (ps_for PassesOwn.never rfl (pi_seq (pe_tup (pa_cons (pe_tup (pa_cons (pv 6) (pa_cons (pv 7) (pa_cons (pv 4) pa_nil)))) (pa_cons (pe_tup (pa_cons (pe_callTy call_tuple_of (by rfl) n_tuple (by decide +kernel) (pa_cons (pv 1) pa_nil)) (pa_cons (pv 7) (pa_cons pe_str pa_nil)))) (pa_cons (pe_tup (pa_cons pe_non (pa_cons (pv 2) (pa_cons (pe_op op_sub pe_int pe_int) pa_nil)))) pa_nil))))) (pg_tup rfl (pgs_cons (pg_name (i := 14) sc__law_refused_right.nd rfl (Or.inr rfl)) (pgs_cons (pg_name (i := 13) sc__law_refused_right.nd rfl (Or.inr rfl)) (pgs_cons (pg_name (i := 10) sc__law_refused_right.nd rfl (Or.inl rfl)) pgs_nil))))
      (pss_one (ps_if (pt_cmpR op_ne (pe_callB Tm.cr_reprU (by rfl) n_repr (by decide +kernel) (pa_cons (pe_lamcall (T := [(Pt, qRef)]) (t := fun E => Lc.tVarX P w K mg base 7 15 (spRef2 K C D) (fun _ => E) (tCons (tVar 14) (tCons (tVar 13) tNil))) (TT := TWord C D) (k := 7) (a := "work") (Ng := ["work", "found", "e"]) rfl mword kpg lkg cdg' bg sc__law_word rfl (.inl rfl) (law_word_gives Te TS eRC) TB rfl (List.mem_singleton.mpr rfl) (fun p hp _ => by rw [List.mem_singleton.mp hp] <;> rfl) (hr.mono (by decide)) (lamS_by rfl) rfl (fun _ _ _ _ _ => rfl) (fun A outer s H E f c1 hr2 => Lc.pe_varX (lv := 7) (i := 15) (sp := spRef2 K C D) (E := fun _ => E) rfl (.inr (.inr rfl)) hr2 (fun σ => passAt (takes_of rfl rfl rfl rfl) σ) (pa_cons (pv 14) (pa_cons (pv 13) pa_nil)))) pa_nil)) (pe_callB Tm.cr_reprU (by rfl) n_repr (by decide +kernel) (pa_cons (pv 10) pa_nil)) (nomark _)) (pss_one (ps_ret pe_bl)) pss_nil)))))
    (pss_one (ps_ret pe_bl)))))))), ?_⟩
    have lnA := al.len
    refine ⟨_, rfl, _, rfl, l, its, rfl, .inl (SqL.of el), _, _, rfl, rfl, p, _, rfl, ⟨by omega, by omega⟩, hb, fun at_ H1 a0 a1 k1 b1 => ?_⟩
    obtain ⟨n, rfl⟩ := Int.eq_ofNat_of_zero_le a0
    have hn : n ≤ ts.length := by omega
    have el1 := k1 _ _ el lp
    refine ⟨_, rfl, ?_⟩
    refine ⟨by show 1 ≤ sizeLine; decide, fun wa1 wk1 => ?_⟩
    have ws1 := same_new wk1 (.lst [V.str (Str.ofString "x")])
    have we1 : upd H1 wa1 (.lst [V.str (Str.ofString "x")]) wa1 = some (.lst [V.str (Str.ofString "x")]) := upd_same
    generalize upd H1 wa1 (.lst [V.str (Str.ofString "x")]) = wH1 at ws1 we1 ⊢
    refine ⟨by show 1 ≤ sizeLine; decide, fun wa2 wk2 => ?_⟩
    have ws2 := same_new wk2 (.tup [V.str (Str.ofString "x")])
    have we2 : upd wH1 wa2 (.tup [V.str (Str.ofString "x")]) wa2 = some (.tup [V.str (Str.ofString "x")]) := upd_same
    replace we1 := ws2 _ _ we1
    generalize upd wH1 wa2 (.tup [V.str (Str.ofString "x")]) = wH2 at ws2 we2 we1 ⊢
    have wS2 := ws1.trans ws2
    refine ⟨by show 2 ≤ sizeLine; decide, fun wa3 wk3 => ?_⟩
    have ws3 := same_new wk3 (.tup [V.str (Str.ofString "x"), .str (Str.ofString "x")])
    have we3 : upd wH2 wa3 (.tup [V.str (Str.ofString "x"), .str (Str.ofString "x")]) wa3 = some (.tup [V.str (Str.ofString "x"), .str (Str.ofString "x")]) := upd_same
    replace we1 := ws3 _ _ we1
    replace we2 := ws3 _ _ we2
    generalize upd wH2 wa3 (.tup [V.str (Str.ofString "x"), .str (Str.ofString "x")]) = wH3 at ws3 we3 we1 we2 ⊢
    have wS3 := wS2.trans ws3
    refine ⟨by show 3 ≤ sizeLine; decide, fun wa4 wk4 => ?_⟩
    have ws4 := same_new wk4 (.tup [V.ref wa2, .ref wa3, .int 0])
    have we4 : upd wH3 wa4 (.tup [V.ref wa2, .ref wa3, .int 0]) wa4 = some (.tup [V.ref wa2, .ref wa3, .int 0]) := upd_same
    replace we1 := ws4 _ _ we1
    replace we2 := ws4 _ _ we2
    replace we3 := ws4 _ _ we3
    generalize upd wH3 wa4 (.tup [V.ref wa2, .ref wa3, .int 0]) = wH4 at ws4 we4 we1 we2 we3 ⊢
    have wS4 := wS3.trans ws4
    refine ⟨by show 0 ≤ sizeLine; decide, fun wa5 wk5 => ?_⟩
    have ws5 := same_new wk5 (.tup [])
    have we5 : upd wH4 wa5 (.tup []) wa5 = some (.tup []) := upd_same
    replace we1 := ws5 _ _ we1
    replace we2 := ws5 _ _ we2
    replace we3 := ws5 _ _ we3
    replace we4 := ws5 _ _ we4
    generalize upd wH4 wa5 (.tup []) = wH5 at ws5 we5 we1 we2 we3 we4 ⊢
    have wS5 := wS4.trans ws5
    refine ⟨by show 1 ≤ sizeLine; decide, fun wa6 wk6 => ?_⟩
    have ws6 := same_new wk6 (.tup [V.ref wa5])
    have we6 : upd wH5 wa6 (.tup [V.ref wa5]) wa6 = some (.tup [V.ref wa5]) := upd_same
    replace we1 := ws6 _ _ we1
    replace we2 := ws6 _ _ we2
    replace we3 := ws6 _ _ we3
    replace we4 := ws6 _ _ we4
    replace we5 := ws6 _ _ we5
    generalize upd wH5 wa6 (.tup [V.ref wa5]) = wH6 at ws6 we6 we1 we2 we3 we4 we5 ⊢
    have wS6 := wS5.trans ws6
    refine ⟨by show 6 ≤ sizeLine; decide, fun wa7 wk7 => ?_⟩
    have ws7 := same_new wk7 (.lst [V.non, .int 5, .str (Str.ofString "ab"), .ref wa1, .ref wa4, .ref wa6])
    have we7 : upd wH6 wa7 (.lst [V.non, .int 5, .str (Str.ofString "ab"), .ref wa1, .ref wa4, .ref wa6]) wa7 = some (.lst [V.non, .int 5, .str (Str.ofString "ab"), .ref wa1, .ref wa4, .ref wa6]) := upd_same
    replace we1 := ws7 _ _ we1
    replace we2 := ws7 _ _ we2
    replace we3 := ws7 _ _ we3
    replace we4 := ws7 _ _ we4
    replace we5 := ws7 _ _ we5
    replace we6 := ws7 _ _ we6
    generalize upd wH6 wa7 (.lst [V.non, .int 5, .str (Str.ofString "ab"), .ref wa1, .ref wa4, .ref wa6]) = wH7 at ws7 we7 we1 we2 we3 we4 we5 we6 ⊢
    have wS7 := wS6.trans ws7
    have bw : BoxAt wH7 p := b1.same wS7
    have nw : wa7 ≠ p := fun z => by obtain ⟨_, _, _, e, _⟩ := bw; rw [← z, we7] at e; cases e
    have n1 : wa1 ≠ p := fun z => by obtain ⟨_, _, _, e, _⟩ := bw; rw [← z, we1] at e; cases e
    have bads : ∀ v ∈ [V.non, .int 5, .str (Str.ofString "ab"), .ref wa1, .ref wa4, .ref wa6], ∃ d, Nd K p wH7 v d ∧ BadOk d ∧ Sh 2 d := fun v hv => by
      simp only [List.mem_cons, List.not_mem_nil, or_false] at hv
      rcases hv with rfl | rfl | rfl | rfl | rfl | rfl
      · exact ⟨_, nd_non, bad_by (by decide +kernel), by decide +kernel, by decide +kernel⟩
      · exact ⟨_, nd_int _, bad_by (by decide +kernel), by decide +kernel, by decide +kernel⟩
      · exact ⟨_, nd_str _, bad_by (by decide +kernel), by decide +kernel, by decide +kernel⟩
      · exact ⟨_, .lst we1 n1 (.cons (nd_str _) .nil), bad_by (by decide +kernel), by decide +kernel, by decide +kernel⟩
      · exact ⟨_, .tup we4 bw (.cons (.tup we2 bw (.cons (nd_str _) .nil)) (.cons (.tup we3 bw (.cons (nd_str _) (.cons (nd_str _) .nil))) (.cons (nd_int _) .nil))), bad_by (by decide +kernel), by decide +kernel, by decide +kernel⟩
      · exact ⟨_, .tup we6 bw (.cons (.tup we5 bw .nil) .nil), bad_by (by decide +kernel), by decide +kernel, by decide +kernel⟩
    refine ⟨p, wa7, _, rfl, bw, we7, nw, ⟨by show 1 ≤ 6; decide, by show 6 ≤ 1000; decide⟩, fun nv G0 hnv k0 b0 => ?_⟩
    obtain ⟨dn, ndn, bdn, shn⟩ := bads nv hnv
    have S0 : Kept p H G0 := (k1.sm wS7).trans k0
    replace ndn := ndn.on (KpX.kept k0)
    clear hnv bads
    refine ⟨_, _, rfl, ?_⟩
    have el0 : G0 l = some (.lst its) := S0 _ _ el lp
    refine ⟨_, rfl, _, rfl, _, rfl, rd_slG none (some n) rfl rfl el0 fun xa1 xH1 xn1 xs1 xe1 => ?_⟩
    replace el0 := xs1 _ _ el0
    refine ⟨_, rfl, by show 1 ≤ sizeLine; decide, fun xa2 xk2 => ?_⟩
    have xs2 := same_new xk2 (.lst [nv])
    have xe2 : upd xH1 xa2 (.lst [nv]) xa2 = some (.lst [nv]) := upd_same
    replace el0 := xs2 _ _ el0
    replace xe1 := xs2 _ _ xe1
    generalize upd xH1 xa2 (.lst [nv]) = xH2 at xs2 xe2 el0 xe1 ⊢
    have xS2 := xs1.trans xs2
    refine rd_catG xe1 xe2 (by show (cutN its none (some n)).length + 1 ≤ 1000; unfold cutN; rw [List.length_drop, List.length_take]; omega) fun xa3 xH3 xn3 xs3 xe3 => ?_
    replace el0 := xs3 _ _ el0
    replace xe1 := xs3 _ _ xe1
    replace xe2 := xs3 _ _ xe2
    have xS3 := xS2.trans xs3
    refine ⟨_, rfl, _, rfl, _, rfl, ?_⟩
    dsimp only [tNoPart]
    refine rd_slG (some n) none rfl rfl el0 fun xa4 xH4 xn4 xs4 xe4 => ?_
    replace el0 := xs4 _ _ el0
    replace xe1 := xs4 _ _ xe1
    replace xe2 := xs4 _ _ xe2
    replace xe3 := xs4 _ _ xe3
    have xS4 := xS3.trans xs4
    refine rd_catG xe3 xe4 (by show (cutN its none (some n) ++ [nv]).length + (cutN its (some n) none).length ≤ 1000; unfold cutN; rw [List.length_append, List.length_drop, List.length_take, List.length_drop]; show _ + 1 + _ ≤ 1000; omega) fun xa5 xH5 xn5 xs5 xe5 => ?_
    replace el0 := xs5 _ _ el0
    replace xe1 := xs5 _ _ xe1
    replace xe2 := xs5 _ _ xe2
    replace xe3 := xs5 _ _ xe3
    replace xe4 := xs5 _ _ xe4
    have xS5 := xS4.trans xs5
    have bx : BoxAt xH5 p := b0.same xS5
    have spp : xa5 ≠ p := (b0.same xS4).ne xn5
    have ndx := ndn.on (KpX.same xS5)
    have S1 : Kept p H xH5 := S0.sm xS5
    obtain ⟨ds, hds⟩ : ∃ ds : List PyData, ds = (ts.take n).map tD ++ dn :: (ts.drop n).map tD := ⟨_, rfl⟩
    have alx := al.imp fun _ _ r => r.on (hb.kept S1)
    have nts := nd_tals bx alx (K := K)
    have nds : All2 (Nd K p xH5) (cutN its none (some n) ++ [nv] ++ cutN its (some n) none) ds := by
      rw [hds, List.append_assoc, List.map_take, List.map_drop]
      exact (nts.take n).app (.cons ndx (nts.drop n))
    have ndsp : Nd K p xH5 (.ref xa5) (.list ds) := .lst xe5 spp nds
    clear alx nts nds
    refine ⟨_, rfl, ?_⟩
    refine ⟨by show 1 ≤ sizeLine; decide, fun va1 vk1 => ?_⟩
    have vs1 := same_new vk1 (.lst [V.str (Str.ofString "x")])
    have ve1 : upd xH5 va1 (.lst [V.str (Str.ofString "x")]) va1 = some (.lst [V.str (Str.ofString "x")]) := upd_same
    replace xe5 := vs1 _ _ xe5
    generalize upd xH5 va1 (.lst [V.str (Str.ofString "x")]) = vH1 at vs1 ve1 xe5 ⊢
    refine ⟨by show 2 ≤ sizeLine; decide, fun va2 vk2 => ?_⟩
    have vs2 := same_new vk2 (.tup [V.str (Str.ofString "y"), .str (Str.ofString "x")])
    have ve2 : upd vH1 va2 (.tup [V.str (Str.ofString "y"), .str (Str.ofString "x")]) va2 = some (.tup [V.str (Str.ofString "y"), .str (Str.ofString "x")]) := upd_same
    replace xe5 := vs2 _ _ xe5
    replace ve1 := vs2 _ _ ve1
    generalize upd vH1 va2 (.tup [V.str (Str.ofString "y"), .str (Str.ofString "x")]) = vH2 at vs2 ve2 xe5 ve1 ⊢
    have vS2 := vs1.trans vs2
    refine ⟨by show 2 ≤ sizeLine; decide, fun va3 vk3 => ?_⟩
    have vs3 := same_new vk3 (.tup [V.str (Str.ofString "x"), .str (Str.ofString "x")])
    have ve3 : upd vH2 va3 (.tup [V.str (Str.ofString "x"), .str (Str.ofString "x")]) va3 = some (.tup [V.str (Str.ofString "x"), .str (Str.ofString "x")]) := upd_same
    replace xe5 := vs3 _ _ xe5
    replace ve1 := vs3 _ _ ve1
    replace ve2 := vs3 _ _ ve2
    generalize upd vH2 va3 (.tup [V.str (Str.ofString "x"), .str (Str.ofString "x")]) = vH3 at vs3 ve3 xe5 ve1 ve2 ⊢
    have vS3 := vS2.trans vs3
    refine ⟨by show 1 ≤ sizeLine; decide, fun va4 vk4 => ?_⟩
    have vs4 := same_new vk4 (.tup [V.str (Str.ofString "")])
    have ve4 : upd vH3 va4 (.tup [V.str (Str.ofString "")]) va4 = some (.tup [V.str (Str.ofString "")]) := upd_same
    replace xe5 := vs4 _ _ xe5
    replace ve1 := vs4 _ _ ve1
    replace ve2 := vs4 _ _ ve2
    replace ve3 := vs4 _ _ ve3
    generalize upd vH3 va4 (.tup [V.str (Str.ofString "")]) = vH4 at vs4 ve4 xe5 ve1 ve2 ve3 ⊢
    have vS4 := vS3.trans vs4
    refine ⟨by show 1 ≤ sizeLine; decide, fun va5 vk5 => ?_⟩
    have vs5 := same_new vk5 (.tup [V.str (Str.ofString "X")])
    have ve5 : upd vH4 va5 (.tup [V.str (Str.ofString "X")]) va5 = some (.tup [V.str (Str.ofString "X")]) := upd_same
    replace xe5 := vs5 _ _ xe5
    replace ve1 := vs5 _ _ ve1
    replace ve2 := vs5 _ _ ve2
    replace ve3 := vs5 _ _ ve3
    replace ve4 := vs5 _ _ ve4
    generalize upd vH4 va5 (.tup [V.str (Str.ofString "X")]) = vH5 at vs5 ve5 xe5 ve1 ve2 ve3 ve4 ⊢
    have vS5 := vS4.trans vs5
    refine ⟨by show 1 ≤ sizeLine; decide, fun va6 vk6 => ?_⟩
    have vs6 := same_new vk6 (.tup [V.int 1])
    have ve6 : upd vH5 va6 (.tup [V.int 1]) va6 = some (.tup [V.int 1]) := upd_same
    replace xe5 := vs6 _ _ xe5
    replace ve1 := vs6 _ _ ve1
    replace ve2 := vs6 _ _ ve2
    replace ve3 := vs6 _ _ ve3
    replace ve4 := vs6 _ _ ve4
    replace ve5 := vs6 _ _ ve5
    generalize upd vH5 va6 (.tup [V.int 1]) = vH6 at vs6 ve6 xe5 ve1 ve2 ve3 ve4 ve5 ⊢
    have vS6 := vS5.trans vs6
    refine ⟨by show 8 ≤ sizeLine; decide, fun va7 vk7 => ?_⟩
    have vs7 := same_new vk7 (.lst [V.non, .str (Str.ofString "x"), .ref va1, .ref va2, .ref va3, .ref va4, .ref va5, .ref va6])
    have ve7 : upd vH6 va7 (.lst [V.non, .str (Str.ofString "x"), .ref va1, .ref va2, .ref va3, .ref va4, .ref va5, .ref va6]) va7 = some (.lst [V.non, .str (Str.ofString "x"), .ref va1, .ref va2, .ref va3, .ref va4, .ref va5, .ref va6]) := upd_same
    replace xe5 := vs7 _ _ xe5
    replace ve1 := vs7 _ _ ve1
    replace ve2 := vs7 _ _ ve2
    replace ve3 := vs7 _ _ ve3
    replace ve4 := vs7 _ _ ve4
    replace ve5 := vs7 _ _ ve5
    replace ve6 := vs7 _ _ ve6
    generalize upd vH6 va7 (.lst [V.non, .str (Str.ofString "x"), .ref va1, .ref va2, .ref va3, .ref va4, .ref va5, .ref va6]) = vH7 at vs7 ve7 xe5 ve1 ve2 ve3 ve4 ve5 ve6 ⊢
    have vS7 := vS6.trans vs7
    have bv : BoxAt vH7 p := b0.same (xS5.trans vS7)
    have nv7 : va7 ≠ p := fun z => by obtain ⟨_, _, _, e, _⟩ := bv; rw [← z, ve7] at e; cases e
    have nv1 : va1 ≠ p := fun z => by obtain ⟨_, _, _, e, _⟩ := bv; rw [← z, ve1] at e; cases e
    have badw : ∀ v ∈ [V.non, .str (Str.ofString "x"), .ref va1, .ref va2, .ref va3, .ref va4, .ref va5, .ref va6], ∃ d, Nd K p vH7 v d ∧ Sm1 d ∧ nlD d = false := fun v hv => by
      simp only [List.mem_cons, List.not_mem_nil, or_false] at hv
      rcases hv with rfl | rfl | rfl | rfl | rfl | rfl | rfl | rfl
      · exact ⟨_, nd_non, sm1_by _ (by decide +kernel), by decide +kernel⟩
      · exact ⟨_, nd_str _, sm1_by _ (by decide +kernel), by decide +kernel⟩
      · exact ⟨_, .lst ve1 nv1 (.cons (nd_str _) .nil), sm1_by _ (by decide +kernel), by decide +kernel⟩
      · exact ⟨_, .tup ve2 bv (.cons (nd_str _) (.cons (nd_str _) .nil)), sm1_by _ (by decide +kernel), by decide +kernel⟩
      · exact ⟨_, .tup ve3 bv (.cons (nd_str _) (.cons (nd_str _) .nil)), sm1_by _ (by decide +kernel), by decide +kernel⟩
      · exact ⟨_, .tup ve4 bv (.cons (nd_str _) .nil), sm1_by _ (by decide +kernel), by decide +kernel⟩
      · exact ⟨_, .tup ve5 bv (.cons (nd_str _) .nil), sm1_by _ (by decide +kernel), by decide +kernel⟩
      · exact ⟨_, .tup ve6 bv (.cons (nd_int _) .nil), sm1_by _ (by decide +kernel), by decide +kernel⟩
    refine ⟨p, va7, _, rfl, bv, ve7, nv7, ⟨by show 1 ≤ 8; decide, by show 8 ≤ 1000; decide⟩, fun wv G2 hwv k2 b2 => ?_⟩
    obtain ⟨dw, ndw, smw, nlw⟩ := badw wv hwv
    have S2 : Kept p H G2 := (S1.sm vS7).trans k2
    replace ndw := ndw.on (KpX.kept k2)
    replace ndx := (ndx.on (KpX.same vS7)).on (KpX.kept k2)
    replace ndsp := (ndsp.on (KpX.same (vS7))).on (KpX.kept k2)
    clear hwv badw
    refine ⟨_, _, rfl, ?_⟩
    have enb2 : G2 nb = some (.tup (nm.map V.int)) := S2 _ _ enb (hb.neT enb)
    have elb2 : G2 lb = some (.tup (bs.map V.str)) := S2 _ _ elb (hb.neT elb)
    refine ⟨_, rfl, ?_⟩
    refine ⟨_, rfl, nb, _, rfl, .inr (SqT.of enb2), fun za1 zk1 => ?_⟩
    have zs1 := same_new zk1 (.lst (nm.map V.int))
    have ze1 : upd G2 za1 (.lst (nm.map V.int)) za1 = some (.lst (nm.map V.int)) := upd_same
    replace enb2 := zs1 _ _ enb2
    replace elb2 := zs1 _ _ elb2
    generalize upd G2 za1 (.lst (nm.map V.int)) = zH1 at zs1 ze1 enb2 elb2 ⊢
    refine ⟨_, rfl, by show 1 ≤ sizeLine; decide, fun za2 zk2 => ?_⟩
    have zs2 := same_new zk2 (.tup [V.int 0])
    have ze2 : upd zH1 za2 (.tup [V.int 0]) za2 = some (.tup [V.int 0]) := upd_same
    replace enb2 := zs2 _ _ enb2
    replace elb2 := zs2 _ _ elb2
    replace ze1 := zs2 _ _ ze1
    generalize upd zH1 za2 (.tup [V.int 0]) = zH2 at zs2 ze2 enb2 elb2 ze1 ⊢
    have zS2 := zs1.trans zs2
    refine rd_catT enb2 ze2 (by rw [List.length_map]; show _ + 1 ≤ 1000; omega) fun za3 zH3 zs3 ze3 => ?_
    replace enb2 := zs3 _ _ enb2
    replace elb2 := zs3 _ _ elb2
    replace ze1 := zs3 _ _ ze1
    replace ze2 := zs3 _ _ ze2
    have zS3 := zS2.trans zs3
    refine ⟨_, rfl, _, rfl, ?_⟩
    dsimp only [tNoPart]
    refine rd_slT enb2 fun za4 zH4 zs4 ze4 => ?_
    replace enb2 := zs4 _ _ enb2
    replace elb2 := zs4 _ _ elb2
    replace ze1 := zs4 _ _ ze1
    replace ze2 := zs4 _ _ ze2
    replace ze3 := zs4 _ _ ze3
    have zS4 := zS3.trans zs4
    have ec4 : cutV (nm.map V.int) (some (1 : Int)) none = (nm.drop 1).map V.int := by rw [List.map_drop]; exact cutV_N (nm.map V.int) (some 1) none
    rw [ec4] at ze4
    refine ⟨_, _, rfl, rfl, by show 1 ≤ sizeLine; decide, fun za5 zk5 => ?_⟩
    have zs5 := same_new zk5 (.tup [V.int (0 - 1)])
    have ze5 : upd zH4 za5 (.tup [V.int (0 - 1)]) za5 = some (.tup [V.int (0 - 1)]) := upd_same
    replace enb2 := zs5 _ _ enb2
    replace elb2 := zs5 _ _ elb2
    replace ze1 := zs5 _ _ ze1
    replace ze2 := zs5 _ _ ze2
    replace ze3 := zs5 _ _ ze3
    replace ze4 := zs5 _ _ ze4
    generalize upd zH4 za5 (.tup [V.int (0 - 1)]) = zH5 at zs5 ze5 enb2 elb2 ze1 ze2 ze3 ze4 ⊢
    have zS5 := zS4.trans zs5
    refine rd_catT ze4 ze5 (by rw [List.length_map, List.length_drop]; show _ + 1 ≤ 1000; omega) fun za6 zH6 zs6 ze6 => ?_
    replace enb2 := zs6 _ _ enb2
    replace elb2 := zs6 _ _ elb2
    replace ze1 := zs6 _ _ ze1
    replace ze2 := zs6 _ _ ze2
    replace ze3 := zs6 _ _ ze3
    replace ze4 := zs6 _ _ ze4
    replace ze5 := zs6 _ _ ze5
    have zS6 := zS5.trans zs6
    refine ⟨by show 1 ≤ sizeLine; decide, fun za7 zk7 => ?_⟩
    have zs7 := same_new zk7 (.tup [V.non])
    have ze7 : upd zH6 za7 (.tup [V.non]) za7 = some (.tup [V.non]) := upd_same
    replace enb2 := zs7 _ _ enb2
    replace elb2 := zs7 _ _ elb2
    replace ze1 := zs7 _ _ ze1
    replace ze2 := zs7 _ _ ze2
    replace ze3 := zs7 _ _ ze3
    replace ze4 := zs7 _ _ ze4
    replace ze5 := zs7 _ _ ze5
    replace ze6 := zs7 _ _ ze6
    generalize upd zH6 za7 (.tup [V.non]) = zH7 at zs7 ze7 enb2 elb2 ze1 ze2 ze3 ze4 ze5 ze6 ⊢
    have zS7 := zS6.trans zs7
    refine ⟨_, rfl, lb, _, rfl, .inr (SqT.of elb2), ?_⟩
    refine rd_repT ze7 (by simp) (by rw [List.length_map]; omega) (by show 1 ≤ 1000; decide) fun za8 zH8 zs8 ze8 => ?_
    replace enb2 := zs8 _ _ enb2
    replace elb2 := zs8 _ _ elb2
    replace ze1 := zs8 _ _ ze1
    replace ze2 := zs8 _ _ ze2
    replace ze3 := zs8 _ _ ze3
    replace ze4 := zs8 _ _ ze4
    replace ze5 := zs8 _ _ ze5
    replace ze6 := zs8 _ _ ze6
    replace ze7 := zs8 _ _ ze7
    have zS8 := zS7.trans zs8
    rw [rep_non, List.length_map] at ze8
    refine ⟨by show 1 ≤ sizeLine; decide, fun za9 zk9 => ?_⟩
    have zs9 := same_new zk9 (.tup [V.int 1])
    have ze9 : upd zH8 za9 (.tup [V.int 1]) za9 = some (.tup [V.int 1]) := upd_same
    replace enb2 := zs9 _ _ enb2
    replace elb2 := zs9 _ _ elb2
    replace ze1 := zs9 _ _ ze1
    replace ze2 := zs9 _ _ ze2
    replace ze3 := zs9 _ _ ze3
    replace ze4 := zs9 _ _ ze4
    replace ze5 := zs9 _ _ ze5
    replace ze6 := zs9 _ _ ze6
    replace ze7 := zs9 _ _ ze7
    replace ze8 := zs9 _ _ ze8
    generalize upd zH8 za9 (.tup [V.int 1]) = zH9 at zs9 ze9 enb2 elb2 ze1 ze2 ze3 ze4 ze5 ze6 ze7 ze8 ⊢
    have zS9 := zS8.trans zs9
    refine rd_catT ze8 ze9 (by rw [List.length_replicate]; show _ + 1 ≤ 1000; omega) fun za10 zH10 zs10 ze10 => ?_
    replace enb2 := zs10 _ _ enb2
    replace elb2 := zs10 _ _ elb2
    replace ze1 := zs10 _ _ ze1
    replace ze2 := zs10 _ _ ze2
    replace ze3 := zs10 _ _ ze3
    replace ze4 := zs10 _ _ ze4
    replace ze5 := zs10 _ _ ze5
    replace ze6 := zs10 _ _ ze6
    replace ze7 := zs10 _ _ ze7
    replace ze8 := zs10 _ _ ze8
    replace ze9 := zs10 _ _ ze9
    have zS10 := zS9.trans zs10
    refine ⟨by show 7 ≤ sizeLine; decide, fun za11 zk11 => ?_⟩
    have zs11 := same_new zk11 (.lst [V.non, .ref za1, .ref za3, .ref za6, .ref za10, .str (Str.ofString "0"), .int 0])
    have ze11 : upd zH10 za11 (.lst [V.non, .ref za1, .ref za3, .ref za6, .ref za10, .str (Str.ofString "0"), .int 0]) za11 = some (.lst [V.non, .ref za1, .ref za3, .ref za6, .ref za10, .str (Str.ofString "0"), .int 0]) := upd_same
    replace enb2 := zs11 _ _ enb2
    replace elb2 := zs11 _ _ elb2
    replace ze1 := zs11 _ _ ze1
    replace ze2 := zs11 _ _ ze2
    replace ze3 := zs11 _ _ ze3
    replace ze4 := zs11 _ _ ze4
    replace ze5 := zs11 _ _ ze5
    replace ze6 := zs11 _ _ ze6
    replace ze7 := zs11 _ _ ze7
    replace ze8 := zs11 _ _ ze8
    replace ze9 := zs11 _ _ ze9
    replace ze10 := zs11 _ _ ze10
    generalize upd zH10 za11 (.lst [V.non, .ref za1, .ref za3, .ref za6, .ref za10, .str (Str.ofString "0"), .int 0]) = zH11 at zs11 ze11 enb2 elb2 ze1 ze2 ze3 ze4 ze5 ze6 ze7 ze8 ze9 ze10 ⊢
    have zS11 := zS10.trans zs11
    have bz : BoxAt zH11 p := b2.same zS11
    have nz11 : za11 ≠ p := fun z => by obtain ⟨_, _, _, e, _⟩ := bz; rw [← z, ze11] at e; cases e
    have nz1 : za1 ≠ p := b2.ne zk1
    have badn : ∀ v ∈ [V.non, .ref za1, .ref za3, .ref za6, .ref za10, .str (Str.ofString "0"), .int 0], ∃ d, Nd K p zH11 v d ∧ SmN d ∧ namD bs.length d = false := fun v hv => by
      simp only [List.mem_cons, List.not_mem_nil, or_false] at hv
      rcases hv with rfl | rfl | rfl | rfl | rfl | rfl | rfl
      · exact ⟨_, nd_non, trivial, rfl⟩
      · exact ⟨_, .lst ze1 nz1 (nd_ints nm), trivial, rfl⟩
      · refine ⟨_, .tup ze3 bz ((nd_ints nm).app (.cons (nd_int 0) .nil)), ?_, ?_⟩
        · show (nm.map PyData.int ++ [PyData.int 0]).length ≤ 1000
          rw [List.length_append, List.length_map]; show _ + 1 ≤ 1000; omega
        · show (decide ((nm.map PyData.int ++ [PyData.int 0]).length = bs.length) && _) = false
          rw [List.length_append, List.length_map, decide_eq_false (by show ¬ (_ + 1 = _); omega)]; rfl
      · refine ⟨_, .tup ze6 bz ((nd_ints (nm.drop 1)).app (.cons (nd_int _) .nil)), ?_, ?_⟩
        · show ((nm.drop 1).map PyData.int ++ [PyData.int (0 - 1)]).length ≤ 1000
          rw [List.length_append, List.length_map, List.length_drop]; show _ + 1 ≤ 1000; omega
        · show (_ && ((nm.drop 1).map PyData.int ++ [PyData.int (0 - 1)]).all numD) = false
          rw [List.all_append, show ([PyData.int (0 - 1)]).all numD = false by decide, Bool.and_false, Bool.and_false]
      · refine ⟨_, .tup ze10 bz ((nd_nons bs.length).app (.cons (nd_int 1) .nil)), ?_, ?_⟩
        · show (List.replicate bs.length PyData.none ++ [PyData.int 1]).length ≤ 1000
          rw [List.length_append, List.length_replicate]; show _ + 1 ≤ 1000; omega
        · show (decide ((List.replicate bs.length PyData.none ++ [PyData.int 1]).length = bs.length) && _) = false
          rw [List.length_append, List.length_replicate, decide_eq_false (by show ¬ (_ + 1 = _); omega)]; rfl
      · exact ⟨_, nd_str _, trivial, rfl⟩
      · exact ⟨_, nd_int _, trivial, rfl⟩
    refine ⟨p, za11, _, rfl, bz, ze11, nz11, ⟨by show 1 ≤ 7; decide, by show 7 ≤ 1000; decide⟩, fun bv0 G3 hbv k3 b3 => ?_⟩
    obtain ⟨db0, ndb0, smb0, nmb0⟩ := badn bv0 hbv
    have S3 : Kept p H G3 := (S2.sm zS11).trans k3
    have k23 : KpX p G2 G3 := (KpX.same zS11).trans (KpX.kept k3)
    replace ndb0 := ndb0.on (KpX.kept k3)
    replace ndw := ndw.on k23
    replace ndsp := ndsp.on k23
    replace ndx := ndx.on k23
    clear hbv badn
    let σ0 : V → Option V → Option V → Option V → Option V → Option V → Option V → Option V → L2.St := fun bv o9 o10 o11 o12 o13 o14 o15 => [some (.ref p), some (.ref l), some (.ref lb), some (.ref nb), some (.int (n : Nat)), some nv, some (.ref xa5), some wv, some bv, o9, o10, o11, o12, o13, o14, o15]
    refine ⟨fun σ H' => ∃ bv db o9, σ = σ0 bv o9 none none none none none none ∧ Kept p G3 H' ∧ Nd K p H' bv db ∧ SmN db ∧ namD bs.length db = false, ?_, ?_⟩
    · have enb3 : G3 nb = some (.tup (nm.map V.int)) := S3 _ _ enb (hb.neT enb)
      have elb3 : G3 lb = some (.tup (bs.map V.str)) := S3 _ _ elb (hb.neT elb)
      have stay : ∀ H', Kept p G3 H' → ∃ bv db o9, σ0 bv0 none none none none none none none = σ0 bv o9 none none none none none none ∧ Kept p G3 H' ∧ Nd K p H' bv db ∧ SmN db ∧ namD bs.length db = false := fun H' k => ⟨bv0, db0, none, rfl, k, ndb0.on (KpX.kept k), smb0, nmb0⟩
      refine ⟨_, rfl, by show 0 ≤ sizeLine; decide, fun t kt => ?_⟩
      have s4 := same_new kt (.tup [])
      have e4 : upd G3 t (.tup []) t = some (.tup []) := upd_same
      generalize upd G3 t (.tup []) = G4 at s4 e4 ⊢
      have nmb : ∀ x ∈ bs, IsNm x := bnm
      refine ⟨lD bs, .tuple [], .tup (SqT.of (s4 _ _ elb3)) (dp_all (fun _ _ h => by rw [h]; exact .str _) (Sq.All2.of_map (R := fun v x => v = V.str x) (fun _ => rfl) bs)), .tup (SqT.of e4) .nil, (sh_lD nmb).ok (by decide), by decide, ?_⟩
      refine ⟨_, rfl, ?_⟩
      cases c0 : !(lD bs).eqv (.tuple []) with
      | false => exact iteF (iteF (stay _ (Same.kept s4)))
      | true =>
        have bne : 1 ≤ bs.length := by
          cases bs with
          | nil => exact absurd c0 (by decide)
          | cons _ _ => exact Nat.le_add_left _ _
        refine iteT ⟨_, rfl, p, _, rfl, ⟨by decide, by decide⟩, b3.same s4, fun dd G5 d0 d1 k5 b5 => ?_⟩
        refine ⟨rfl, _, rfl, ?_⟩
        have k35 : Kept p G3 G5 := (Same.kept s4).trans k5
        generalize decide (V.int dd = V.int 0) = bb
        cases bb with
        | false => exact iteF (stay _ k35)
        | true =>
          have nbp : nb ≠ p := b3.neT enb3
          have lbp : lb ≠ p := b3.neT elb3
          refine iteT ⟨_, rfl, _, rfl, lb, _, rfl, .inr (SqT.of (k35 _ _ elb3 lbp)), p, _, rfl, ⟨by rw [List.length_map]; omega, by rw [List.length_map]; omega⟩, b5, fun spot G6 p0 p1 k6 b6 => ?_⟩
          obtain ⟨m, rfl⟩ := Int.eq_ofNat_of_zero_le p0
          have k36 := k35.trans k6
          have enb6 := k36 _ _ enb3 nbp
          refine ⟨_, rfl, _, rfl, _, rfl, rd_slT enb6 fun q1 G7 s7 e7 => ?_⟩
          have ec7 : cutV (nm.map V.int) none (some ((m : Nat) : Int)) = (nm.take m).map V.int := by rw [List.map_take]; exact cutV_N (nm.map V.int) none (some m)
          rw [ec7] at e7
          refine ⟨_, rfl, _, _, rfl, rfl, ?_⟩
          refine ⟨by show 1 ≤ sizeLine; decide, fun t1 kt1 => ?_⟩
          have s8 := same_new kt1 (.tup [V.int 1])
          have e8 : upd G7 t1 (.tup [V.int 1]) t1 = some (.tup [V.int 1]) := upd_same
          generalize upd G7 t1 (.tup [V.int 1]) = G8 at s8 e8 ⊢
          refine ⟨by show 6 ≤ sizeLine; decide, fun t2 kt2 => ?_⟩
          have s9 := same_new kt2 (.lst [V.bl true, .bl false, .str (Str.ofString "1"), .non, .int (0 - 2), .ref t1])
          have e9 : upd G8 t2 (.lst [V.bl true, .bl false, .str (Str.ofString "1"), .non, .int (0 - 2), .ref t1]) t2 = some (.lst [V.bl true, .bl false, .str (Str.ofString "1"), .non, .int (0 - 2), .ref t1]) := upd_same
          have b8 := (b6.same s7).same s8
          have n2 := b8.ne kt2
          have b9 := b8.same s9
          replace e8 := s9 _ _ e8
          generalize upd G8 t2 (.lst [V.bl true, .bl false, .str (Str.ofString "1"), .non, .int (0 - 2), .ref t1]) = G9 at s9 e9 e8 b9 ⊢
          have pk : ∀ v ∈ [V.bl true, .bl false, .str (Str.ofString "1"), .non, .int (0 - 2), .ref t1], ∃ d, Nd K p G9 v d ∧ numD d = false := fun v hv => by
            simp only [List.mem_cons, List.not_mem_nil, or_false] at hv
            rcases hv with rfl | rfl | rfl | rfl | rfl | rfl
            · exact ⟨_, nd_bl _, rfl⟩
            · exact ⟨_, nd_bl _, rfl⟩
            · exact ⟨_, nd_str _, rfl⟩
            · exact ⟨_, nd_non, rfl⟩
            · exact ⟨_, nd_int _, by decide⟩
            · exact ⟨_, .tup e8 b9 (.cons (nd_int _) .nil), rfl⟩
          refine ⟨p, t2, _, rfl, b9, e9, n2, ⟨by show 1 ≤ 6; decide, by show 6 ≤ 1000; decide⟩, fun kv G10 hkv k10 b10 => ?_⟩
          obtain ⟨dk, ndk, nmk⟩ := pk kv hkv
          have s79 := (s7.trans s8).trans s9
          have q1p : q1 ≠ p := (b6.same s7).neT e7
          have e7' := k10 _ _ ((s8.trans s9) _ _ e7) q1p
          have enb10 := k10 _ _ (s79 _ _ enb6) nbp
          have k310 : Kept p G3 G10 := (k36.sm s79).trans k10
          replace ndk := ndk.on (KpX.kept k10)
          clear hkv pk
          refine ⟨by show 1 ≤ sizeLine; decide, fun t3 kt3 => ?_⟩
          have s11 := same_new kt3 (.tup [kv])
          have e11 : upd G10 t3 (.tup [kv]) t3 = some (.tup [kv]) := upd_same
          generalize upd G10 t3 (.tup [kv]) = G11 at s11 e11 ⊢
          refine rd_catT (s11 _ _ e7') e11 (by rw [List.length_map, List.length_take]; show _ + 1 ≤ 1000; omega) fun q2 G12 s12 e12 => ?_
          refine ⟨_, rfl, _, rfl, _, _, rfl, rfl, _, rfl, ?_⟩
          dsimp only [tNoPart]
          refine rd_slT ((s11.trans s12) _ _ enb10) fun q3 G13 s13 e13 => ?_
          have ec13 : cutV (nm.map V.int) (some (((m : Nat) : Int) + 1)) none = (nm.drop (m + 1)).map V.int := by rw [List.map_drop]; exact cutV_N (nm.map V.int) (some (m + 1)) none
          rw [ec13] at e13
          refine rd_catT (s13 _ _ e12) e13 (by rw [List.length_append, List.length_map, List.length_take, List.length_map, List.length_drop]; show _ + 1 + _ ≤ 1000; omega) fun q4 G14 s14 e14 => ?_
          have s1014 := ((s11.trans s12).trans s13).trans s14
          refine ⟨.ref q4, .tuple ((nm.take m).map .int ++ [dk] ++ (nm.drop (m + 1)).map .int), _, rfl, k310.sm s1014, .tup e14 (b10.same s1014) (((nd_ints _).app (.cons (ndk.on (KpX.same s1014)) .nil)).app (nd_ints _)), ?_, ?_⟩
          · show (_ ++ _ ++ _ : List PyData).length ≤ 1000
            rw [List.length_append, List.length_append, List.length_map, List.length_map, List.length_take, List.length_drop]
            show _ + 1 + _ ≤ 1000
            omega
          · show (_ && (_ ++ _ ++ _ : List PyData).all numD) = false
            rw [List.all_append, List.all_append, show [dk].all numD = false by rw [List.all_cons, nmk]; rfl, Bool.and_false, Bool.false_and, Bool.and_false]
    rintro σ G4 ⟨bv, db, o9, rfl, k4, ndb, smb, nmb⟩
    -- what stands
    have kx : ∀ {H'}, KpX p G4 H' → KpX p G3 H' := fun k => (KpX.kept k4).trans k
    have el3 : G3 l = some (.lst its) := S3 _ _ el lp
    have al3 := al.imp fun _ _ r => r.on (hb.kept S3)
    have elb3 : G3 lb = some (.tup (bs.map V.str)) := S3 _ _ elb (hb.neT elb)
    have nmb2 : ∀ x ∈ bs, IsNm x := bnm
    have ndl : Nd K p G3 (.ref l) (.list (ts.map tD)) := .lst el3 lp (nd_tals b3 al3)
    have ndlb : Nd K p G3 (.ref lb) (lD bs) := .tup elb3 b3 (nd_strs bs)
    have tk : ∀ {H'}, KpX p G3 H' → TupK G3 H' := fun k c xs e => k c _ e (b3.neT e) (fun ps z => by cases z)
    have nlb : nlD (lD bs) = true := by
      cases hb : bs with
      | nil => rfl
      | cons x r =>
        show (lotD (lD (x :: r)) || _) = true
        have : lotD (lD (x :: r)) = true := by
          show (!((x :: r).map PyData.str).isEmpty && (((x :: r).map PyData.str).all nmD && ascD ((x :: r).map .str))) = true
          have e2 : ((x :: r).map PyData.str).all nmD = true := by
            rw [List.all_map, List.all_eq_true]
            exact fun y hy => nm_B (bnm y (by rw [hb]; exact hy))
          rw [e2, asc_D (x :: r) (by rw [← hb]; exact bas)]; rfl
        rw [this]; rfl
    have bnd : bs.Nodup := asc_nodupS bas
    have smb1 : Sm1 (lD bs) := by
      refine ⟨by rw [List.length_map]; omega, fun d hd => ?_⟩
      obtain ⟨x, hx, rfl⟩ := List.mem_map.mp hd
      have := (bnm x hx).2.1
      show x.length ≤ 1000
      omega
    have fst : firstNo ds = some n := by
      have h0 : ∀ a ∈ (ts.take n).map tD, taleD a = true := fun a ha => by
        obtain ⟨t, ht, rfl⟩ := List.mem_map.mp ha
        exact tale_D nok (inT t (List.mem_of_mem_take ht)).1
      have : firstNo ((ts.take n).map tD ++ dn :: (ts.drop n).map tD) = some ((ts.take n).map tD).length := first_n bdn.nt h0
      rw [List.length_map, List.length_take, Nat.min_eq_left hn] at this
      rw [hds]; exact this
    have tsm : ∀ t ∈ ts, Sm2 (tD t) := fun t ht => tale_sm nok (inT t ht).1 (by have := (inT t ht).2.2; omega)
    have smd : SmT (.list ds) := by
      refine ⟨by show ds.length ≤ 1000; rw [hds]; simp; omega, fun e (he : e ∈ ds) => ?_⟩
      rw [hds] at he
      rcases List.mem_append.mp he with he | he
      · obtain ⟨t, ht, rfl⟩ := List.mem_map.mp he
        exact tsm t (List.mem_of_mem_take ht)
      · rcases List.mem_cons.mp he with rfl | he
        · exact bdn.s2
        · obtain ⟨t, ht, rfl⟩ := List.mem_map.mp he
          exact tsm t (List.mem_of_mem_drop ht)
    have smt : SmT (.list (ts.map tD)) := ⟨by show (ts.map tD).length ≤ 1000; rw [List.length_map]; omega, fun e he => by
      obtain ⟨t, ht, rfl⟩ := List.mem_map.mp he
      exact tsm t ht⟩
    have told : toldE (.list ds) = some ((n : Nat) : Int) := by
      show (if seqD (.list ds) = false then _ else (firstNo ds).map _) = _
      rw [fst]; rfl
    have told2 : toldE (.list (ts.map tD)) = none := by
      show (if seqD (.list (ts.map tD)) = false then _ else (firstNo (ts.map tD)).map _) = _
      have : firstNo (ts.map tD) = none := by
        unfold firstNo
        rw [List.findIdx?_eq_none_iff]
        intro x hx
        obtain ⟨t, ht, rfl⟩ := List.mem_map.mp hx
        rw [tale_D nok (inT t ht).1]; rfl
      rw [this]; rfl
    have shd : SeqAt.shaped (.list ds) = true := by
      have : Sh 3 (.list (ds.map id)) := sh_lst fun e he => by
        rw [hds] at he
        rcases List.mem_append.mp he with he | he
        · obtain ⟨t, ht, rfl⟩ := List.mem_map.mp he
          exact sh_tD (inT t (List.mem_of_mem_take ht)).2.1.nm
        · rcases List.mem_cons.mp he with rfl | he
          · exact shn
          · obtain ⟨t, ht, rfl⟩ := List.mem_map.mp he
            exact sh_tD (inT t (List.mem_of_mem_drop ht)).2.1.nm
      rw [List.map_id] at this
      exact this.ok (by decide)
    have sht : SeqAt.shaped (.list (ts.map tD)) = true := (sh_lst fun t ht => sh_tD (inT t ht).2.1.nm).ok (by decide)
    have eqs : PyData.eqv (.list ds) (.list (ts.map tD)) = false := eqvAll_len (by rw [hds]; simp; omega)
    have eqt : PyData.eqv (.list (ts.map tD)) (.list (ts.map tD)) = true := SeqAt.eqv_refl _ (SeqAt.canLay_of_shaped sht)
    have tlD : ∀ H', KpX p G3 H' → Tls K H' (.ref xa5) (.list ds) [] := fun H' k => ⟨ndsp _ k, smd, fun z => (by rw [told] at z; cases z), by decide⟩
    have tlT : ∀ H', KpX p G3 H' → Tls K H' (.ref l) (.list (ts.map tD)) ts := fun H' k => ⟨ndl _ k, smt, fun _ => ⟨⟨l, its, rfl, SqX.lst (k _ _ el3 lp notbl_l), al3.imp fun _ _ r => r.on (tk k)⟩, fun t ht => ⟨(inT t ht).2.1, fun m hm => by
      have := LotIn.len nok (tlIn_iff.mp (inT t ht).1 m hm)
      have := nok.ln
      omega⟩⟩, by omega⟩
    have erW : ∀ H', KpX p G4 H' → Ears K H' wv bv dw db bs [] := fun H' k => ⟨ndw _ (kx k), ndb _ k, smw, smb, fun z => (by rw [nlw] at z; cases z), fun z => (by rw [nmb] at z; cases z), bnd⟩
    have erB : ∀ H', KpX p G4 H' → Ears K H' (.ref lb) bv (lD bs) db bs [] := fun H' k => ⟨ndlb _ (kx k), ndb _ k, smb1, smb, fun _ => ⟨lb, rfl, kx k _ _ elb3 (b3.neT elb3) (fun ps z => by cases z)⟩, fun z => (by rw [nmb] at z; cases z), bnd⟩
    have ePz : G4 Pt = some (.tbl #[]) := by
      refine k4 _ _ (S3 _ _ ePt ?_) ?_
      · intro z
        obtain ⟨_, _, _, e, _⟩ := hb
        rw [z, e] at ePt; cases ePt
      · intro z
        obtain ⟨_, _, _, e, _⟩ := hb
        rw [z, e] at ePt; cases ePt
    have tb0 : Tabs [(Pt, qRef)] G4 := fun q' hq => by rw [List.mem_singleton.mp hq]; exact TabS.nil ePz
    -- one row of the first loop
    let R1 : V → V → Wd → Wd → Prop := fun v u due due2 => ∃ (d : PyData) (tsx : List Tale) (e : PyData) (sm : Bool), (∀ H', KpX p G4 H' → Tls K H' v d tsx) ∧ (∀ H', KpX p G4 H' → Ears K H' u bv e db bs []) ∧ (∀ k, toldE d = some k → due = .num k) ∧ (toldE d = none → nlD e = false → due = .word bW) ∧ (toldE d = none → nlD e = true → due = .word nW) ∧ due.fits ∧ due2.fits ∧ SeqAt.shaped d = true ∧ PyData.eqv d (.list (ts.map tD)) = sm ∧ (sm = false → due2 = .num 0) ∧ (sm = true → due2 = due ∧ toldE d = none)
    have r1 : R1 (.ref xa5) wv (.num (n : Nat)) (.num 0) := ⟨_, [], dw, false, fun H' k => tlD H' (kx k), erW, fun k hk => by rw [told] at hk; cases hk; rfl, fun z => (by rw [told] at z; cases z), fun z => (by rw [told] at z; cases z), fits_k (by omega), fits_k (by decide), shd, eqs, fun _ => rfl, fun z => (by cases z)⟩
    have r2 : R1 (.ref l) wv (.word bW) (.word bW) := ⟨_, ts, dw, true, fun H' k => tlT H' (kx k), erW, fun k hk => (by rw [told2] at hk; cases hk), fun _ _ => rfl, fun _ z => (by rw [nlw] at z; cases z), fits_b, fits_b, sht, eqt, fun z => (by cases z), fun _ => ⟨rfl, told2⟩⟩
    have r3 : R1 (.ref l) (.ref lb) (.word nW) (.word nW) := ⟨_, ts, lD bs, true, fun H' k => tlT H' (kx k), erB, fun k hk => (by rw [told2] at hk; cases hk), fun _ z => (by rw [nlb] at z; cases z), fun _ _ => rfl, fits_n, fits_n, sht, eqt, fun z => (by cases z), fun _ => ⟨rfl, told2⟩⟩
    refine ⟨fun σ H' => (∃ o10 o11 o12 o13 o14 o15, σ = σ0 bv o9 o10 o11 o12 o13 o14 o15) ∧ KpX p G4 H' ∧ Tabs [(Pt, qRef)] H', ?_, ?_⟩
    · refine ⟨_, rfl, _, rfl, _, rfl, _, rfl, by show 4 ≤ sizeLine; decide, fun u1 ku1 => ?_⟩
      have v1 := same_new ku1 (.tup [V.ref xa5, wv, bv, .int (n : Nat)])
      have w1 : upd G4 u1 (.tup [V.ref xa5, wv, bv, .int (n : Nat)]) u1 = some (.tup [V.ref xa5, wv, bv, .int (n : Nat)]) := upd_same
      generalize upd G4 u1 (.tup [V.ref xa5, wv, bv, .int (n : Nat)]) = M1 at v1 w1 ⊢
      refine ⟨_, rfl, _, rfl, _, rfl, by show 4 ≤ sizeLine; decide, fun u2 ku2 => ?_⟩
      have v2 := same_new ku2 (.tup [V.ref l, wv, bv, .str (Str.ofString "bells")])
      have w2 : upd M1 u2 (.tup [V.ref l, wv, bv, .str (Str.ofString "bells")]) u2 = some (.tup [V.ref l, wv, bv, .str (Str.ofString "bells")]) := upd_same
      replace w1 := v2 _ _ w1
      generalize upd M1 u2 (.tup [V.ref l, wv, bv, .str (Str.ofString "bells")]) = M2 at v2 w1 w2 ⊢
      refine ⟨_, rfl, _, rfl, _, rfl, by show 4 ≤ sizeLine; decide, fun u3 ku3 => ?_⟩
      have v3 := same_new ku3 (.tup [V.ref l, .ref lb, bv, .str (Str.ofString "naming")])
      have w3 : upd M2 u3 (.tup [V.ref l, .ref lb, bv, .str (Str.ofString "naming")]) u3 = some (.tup [V.ref l, .ref lb, bv, .str (Str.ofString "naming")]) := upd_same
      replace w1 := v3 _ _ w1
      replace w2 := v3 _ _ w2
      generalize upd M2 u3 (.tup [V.ref l, .ref lb, bv, .str (Str.ofString "naming")]) = M3 at v3 w1 w2 w3 ⊢
      refine ⟨by show 3 ≤ sizeLine; decide, fun tq ktq => ⟨tq, _, rfl, SqX.tup upd_same, fun J S W z0 => ?_⟩⟩
      have v5 := same_new ktq (.tup [V.ref u1, .ref u2, .ref u3])
      have w5 : upd M3 tq (.tup [V.ref u1, .ref u2, .ref u3]) tq = some (.tup [V.ref u1, .ref u2, .ref u3]) := upd_same
      replace w1 := v5 _ _ w1
      replace w2 := v5 _ _ w2
      replace w3 := v5 _ _ w3
      generalize upd M3 tq (.tup [V.ref u1, .ref u2, .ref u3]) = M5 at v5 w1 w2 w3 w5 z0 ⊢
      have v05 := ((v1.trans v2).trans v3).trans v5
      have x5 : ExtN G4 M5 := ExtN.of v05
      have elm : ∀ (j : Nat) y, [V.ref u1, .ref u2, .ref u3][j]? = some y → ∃ u v o due due2, y = .ref u ∧ M5 u = some (.tup [v, o, bv, due.v]) ∧ R1 v o due due2 := fun j y ey => by
        match j, ey with
        | 0, ey => cases ey; exact ⟨u1, _, _, .num (n : Nat), _, rfl, w1, r1⟩
        | 1, ey => cases ey; exact ⟨u2, _, _, .word bW, _, rfl, w2, r2⟩
        | 2, ey => cases ey; exact ⟨u3, _, _, .word nW, _, rfl, w3, r3⟩
      clear w1 w2 w3
      refine for_sq W (fun j σ H' => (∃ o10 o11 o12 o13 o14 o15, σ = σ0 bv o9 o10 o11 o12 o13 o14 o15) ∧ ExtN M5 H' ∧ Tabs [(Pt, qRef)] H') ⟨⟨none, none, none, none, none, none, rfl⟩, ExtN.refl _, tb0.ext v05⟩ (fun k σ H' pv => W.keep (fun o e => by rw [w5] at e; cases e; exact pv.2.1 _ _ w5 notbl) z0) ?_ (fun σ H' pv => ⟨pv.1, KpX.ext (x5.trans pv.2.1), pv.2.2⟩)
      rintro j σ N0 y ey ⟨⟨o10, o11, o12, o13, o14, o15, rfl⟩, y0, tbj⟩
      obtain ⟨u, v, o, due, due2, rfl, eu', ⟨d, tsx, e, sm, tlx, erx, h1, h2, h3, fit, fit2, shx, eqx, sm0, sm1⟩⟩ := elm j y ey
      refine ⟨u, _, rfl, SqT.of (y0 _ _ eu' notbl), rfl, _, _, rfl, _, _, rfl, _, _, rfl, _, _, rfl, rfl, ?_⟩
      have xj : ExtN G4 N0 := x5.trans y0
      refine ⟨fun σ H' => σ = σ0 bv o9 (some due.v) (some bv) o12 (some o) (some v) o15 ∧ ExtN N0 H' ∧ Tabs [(Pt, qRef)] H', ?_, ?_⟩
      · refine ⟨tbj, fun N1 x3 tb3 R hR => ?_⟩
        have kg : KpX p G4 N1 := KpX.ext (xj.trans x3)
        refine ⟨_, rfl, _, rfl, _, rfl, lam1 (due := due) (tlx _ kg) (erx _ kg) h1 h2 (fun a b => ⟨nmb, h3 a b⟩) fun N2 s2 => ?_⟩
        refine ⟨due, rfl, fit, _, rfl, due, rfl, fit, rfl, _, rfl, ?_⟩
        rw [show (decide (V.str due.r = V.str due.r)) = true from decide_eq_true rfl]
        exact iteF ⟨rfl, x3.trans (ExtN.of s2), tb3.ext s2⟩
      rintro σ N1 ⟨rfl, x1, tb1⟩
      have k1g : KpX p G4 N1 := KpX.ext (xj.trans x1)
      have ndlx := ndl _ (kx k1g)
      refine ⟨fun σ H' => ∃ fv df t0, σ = σ0 bv o9 (some due.v) (some bv) (some fv) (some o) (some v) o15 ∧ ExtN N0 H' ∧ Tabs [(Pt, qRef)] H' ∧ (∀ H', KpX p G4 H' → Dp K H' fv df) ∧ Sm2 df ∧ (taleD df = true → ∀ H', KpX p G4 H' → TalH H' fv t0) ∧ (taleD df = true → TlOk t0 ∧ ∀ m ∈ t0, m.length < 64) ∧ taleD df = sm, ?_, ?_⟩
      · refine ⟨_, rfl, _, rfl, d, .list (ts.map tD), (tlx _ k1g).dv, ndlx, shx, sht, ?_⟩
        rw [eqx]
        refine ⟨_, rfl, ?_⟩
        cases sm with
        | false =>
          refine iteT ⟨_, rfl, nv, dn, [], rfl, x1, tb1, fun H' k => ndx _ (kx k), bdn.s2, fun z => (by rw [bdn.nt] at z; cases z), fun z => (by rw [bdn.nt] at z; cases z), bdn.nt⟩
        | true =>
          obtain ⟨t0, et0⟩ : ∃ t, ts[0]? = some t := ⟨_, List.getElem?_eq_getElem (by omega)⟩
          obtain ⟨y0', ey0, ry0⟩ := al3.getR et0
          have m0 := at_mem et0
          have D0 := tale_D nok (inT t0 m0).1
          have nd0 : Nd K p G3 y0' (tD t0) := nd_tal b3 ry0
          refine iteF ⟨_, rfl, rd_ixL (i := 0) ((kx k1g) _ _ el3 lp notbl_l) ey0 ⟨y0', tD t0, t0, rfl, x1, tb1, fun H' k => nd0 _ (kx k), tsm t0 m0, fun _ H' k => ry0.on (tk (kx k)), fun _ => ⟨(inT t0 m0).2.1, fun m hm => by
            have := LotIn.len nok (tlIn_iff.mp (inT t0 m0).1 m hm)
            have := nok.ln
            omega⟩, D0⟩⟩
      rintro σ N2 ⟨fv, df, t0, rfl, x2, tb2, dfv, s2f, tal0, ok0, edf⟩
      refine ⟨tb2, fun N3 x3 tb3 R hR => ?_⟩
      have kg : KpX p G4 N3 := KpX.ext ((xj.trans x2).trans x3)
      refine ⟨_, rfl, _, rfl, _, rfl, lam2 (due := due2) (dfv _ kg) s2f (fun z => ⟨tal0 z _ kg, ok0 z⟩) (erx _ kg) (fun z => sm0 (edf.symm.trans z)) (fun z nl => by
        obtain ⟨a, b⟩ := sm1 (edf.symm.trans z)
        rw [a]; exact h2 b nl) (fun z nl => ⟨nmb, by
        obtain ⟨a, b⟩ := sm1 (edf.symm.trans z)
        rw [a]; exact h3 b nl⟩) fun N4 s4 => ?_⟩
      have k4g : KpX p G4 N4 := kg.trans (KpX.same s4)
      refine ⟨due2, rfl, fit2, _, rfl, _, rfl, d, .list (ts.map tD), (tlx _ k4g).dv, ndl _ (kx k4g), shx, sht, ?_⟩
      rw [eqx]
      refine ⟨_, rfl, ?_⟩
      have fin : ExtN M5 N4 := ((y0.trans x2).trans x3).trans (ExtN.of s4)
      cases sm with
      | false =>
        have e2 := sm0 rfl
        subst e2
        refine iteT ⟨.num 0, rfl, fits_k (by decide), rfl, _, rfl, ?_⟩
        rw [show (decide (V.str (Wd.num 0).r = V.str (Wd.num 0).r)) = true from decide_eq_true rfl]
        exact iteF ⟨⟨_, _, _, _, _, _, rfl⟩, fin, tb3.ext s4⟩
      | true =>
        obtain ⟨rfl, _⟩ := sm1 rfl
        refine iteF ⟨_, rfl, due2, rfl, fit, rfl, _, rfl, ?_⟩
        rw [show (decide (V.str due2.r = V.str due2.r)) = true from decide_eq_true rfl]
        exact iteF ⟨⟨_, _, _, _, _, _, rfl⟩, fin, tb3.ext s4⟩
    rintro σ G5 ⟨⟨o10, o11, o12, o13, o14, o15, rfl⟩, k5, tb5⟩
    have told3 : toldE (.tuple (ts.map tD)) = none := by
      show (if seqD (.tuple (ts.map tD)) = false then _ else (firstNo (ts.map tD)).map _) = _
      have : firstNo (ts.map tD) = none := by
        unfold firstNo
        rw [List.findIdx?_eq_none_iff]
        intro x hx
        obtain ⟨t, ht, rfl⟩ := List.mem_map.mp hx
        rw [tale_D nok (inT t ht).1]; rfl
      rw [this]; rfl
    have tok : ∀ t ∈ ts, TlOk t ∧ ∀ m ∈ t, m.length < 64 := fun t ht => ⟨(inT t ht).2.1, fun m hm => by
      have := LotIn.len nok (tlIn_iff.mp (inT t ht).1 m hm)
      have := nok.ln
      omega⟩
    have beW : ∀ H', KpX p G4 H' → Bel K H' wv dw bs := fun H' k => ⟨ndw _ (kx k), smw, fun z => (by rw [nlw] at z; cases z), bnd, b4⟩
    have beB : ∀ H', KpX p G4 H' → Bel K H' (.ref lb) (lD bs) bs := fun H' k => ⟨ndlb _ (kx k), smb1, fun _ => ⟨lb, rfl, kx k _ _ elb3 (b3.neT elb3) (fun ps z => by cases z)⟩, bnd, b4⟩
    refine ⟨fun σ H' => True, ?_, fun σ H' _ => q H'⟩
    refine ⟨by show 3 ≤ sizeLine; decide, fun tp ktp => ⟨tp, _, rfl, SqX.tup upd_same, fun J S W z0 => ?_⟩⟩
    have st := same_new ktp (.tup [V.ref f1, .ref f2, .ref f3])
    have etp : upd G5 tp (.tup [V.ref f1, .ref f2, .ref f3]) tp = some (.tup [V.ref f1, .ref f2, .ref f3]) := upd_same
    generalize upd G5 tp (.tup [V.ref f1, .ref f2, .ref f3]) = G6 at st etp z0 ⊢
    have k6 : KpX p G4 G6 := k5.trans (KpX.same st)
    refine for_sq W (fun k σ H' => (∃ o10 o11 o12 o13 o14 o15, σ = σ0 bv o9 o10 o11 o12 o13 o14 o15) ∧ ExtN G6 H' ∧ Tabs [(Pt, qRef)] H') ⟨⟨_, _, _, _, _, _, rfl⟩, ExtN.refl _, tb5.ext st⟩ (fun k σ H' pv => W.keep (fun o e => by rw [etp] at e; cases e; exact pv.2.1 _ _ etp notbl) z0) ?_ (fun _ H' pv => trivial)
    rintro k σ H0 x ex ⟨⟨o10', o11', o12', o13', o14', o15', rfl⟩, x0, tb⟩
    obtain ⟨fj, rfl, cv⟩ : ∃ fj, x = .ref fj ∧ DfX P w K mg base 7 fj (spRef2 K C D) := by
      match k, ex with
      | 0, ex => cases ex; exact ⟨f1, rfl, D1⟩
      | 1, ex => cases ex; exact ⟨f2, rfl, D2⟩
      | 2, ex => cases ex; exact ⟨f3, rfl, D3⟩
    clear ex
    have k0 : KpX p G4 H0 := k6.trans (KpX.ext x0)
    refine ⟨_, rfl, _, rfl, _, rfl, by show 3 ≤ sizeLine; decide, fun u1 ku1 => ?_⟩
    have v1 := same_new ku1 (.tup [V.ref xa5, wv, .int (n : Nat)])
    have w1 : upd H0 u1 (.tup [V.ref xa5, wv, .int (n : Nat)]) u1 = some (.tup [V.ref xa5, wv, .int (n : Nat)]) := upd_same
    generalize upd H0 u1 (.tup [V.ref xa5, wv, .int (n : Nat)]) = M1 at v1 w1 ⊢
    refine ⟨_, rfl, l, its, rfl, .inl ⟨SqL.of (v1 _ _ ((kx k0) _ _ el3 lp notbl_l)), fun ut kut => ?_⟩⟩
    have v2 := same_new kut (.tup its)
    have wt : upd M1 ut (.tup its) ut = some (.tup its) := upd_same
    replace w1 := v2 _ _ w1
    generalize upd M1 ut (.tup its) = M2 at v2 wt w1 ⊢
    refine ⟨_, rfl, by show 3 ≤ sizeLine; decide, fun u2 ku2 => ?_⟩
    have v3 := same_new ku2 (.tup [V.ref ut, wv, .str (Str.ofString "bells")])
    have w2 : upd M2 u2 (.tup [V.ref ut, wv, .str (Str.ofString "bells")]) u2 = some (.tup [V.ref ut, wv, .str (Str.ofString "bells")]) := upd_same
    replace w1 := v3 _ _ w1
    replace wt := v3 _ _ wt
    generalize upd M2 u2 (.tup [V.ref ut, wv, .str (Str.ofString "bells")]) = M3 at v3 w2 wt w1 ⊢
    refine ⟨_, rfl, _, _, rfl, rfl, by show 3 ≤ sizeLine; decide, fun u3 ku3 => ?_⟩
    have v4 := same_new ku3 (.tup [V.non, .ref lb, .int (0 - 1)])
    have w3 : upd M3 u3 (.tup [V.non, .ref lb, .int (0 - 1)]) u3 = some (.tup [V.non, .ref lb, .int (0 - 1)]) := upd_same
    replace w1 := v4 _ _ w1
    replace w2 := v4 _ _ w2
    replace wt := v4 _ _ wt
    generalize upd M3 u3 (.tup [V.non, .ref lb, .int (0 - 1)]) = M4 at v4 w3 w2 wt w1 ⊢
    refine ⟨by show 3 ≤ sizeLine; decide, fun tq ktq => ⟨tq, _, rfl, SqX.tup upd_same, fun J2 S2 W2 z2 => ?_⟩⟩
    have v5 := same_new ktq (.tup [V.ref u1, .ref u2, .ref u3])
    have w5 : upd M4 tq (.tup [V.ref u1, .ref u2, .ref u3]) tq = some (.tup [V.ref u1, .ref u2, .ref u3]) := upd_same
    replace w1 := v5 _ _ w1
    replace w2 := v5 _ _ w2
    replace w3 := v5 _ _ w3
    replace wt := v5 _ _ wt
    generalize upd M4 tq (.tup [V.ref u1, .ref u2, .ref u3]) = M5 at v5 w5 w3 w2 w1 wt z2 ⊢
    have v05 := (((v1.trans v2).trans v3).trans v4).trans v5
    have x5 : ExtN G6 M5 := x0.trans (ExtN.of v05)
    have k5' : ∀ {H'}, ExtN M5 H' → KpX p G4 H' := fun e => k6.trans (KpX.ext (x5.trans e))
    have tlU : ∀ H', ExtN M5 H' → Tls K H' (.ref ut) (.tuple (ts.map tD)) ts := fun H' e => by
      have alH : All2 (TalH H') its ts := al3.imp fun _ _ r => r.on (tk (kx (k5' e)))
      have eu := e _ _ wt notbl
      exact ⟨.tup (SqT.of eu) (dp_all (fun _ _ h => h.dp) alH), smt, fun _ => ⟨⟨ut, its, rfl, SqX.tup eu, alH⟩, tok⟩, by omega⟩
    let R2 : V → V → Wd → Prop := fun v u due => ∃ (d : PyData) (tsx : List Tale) (e : PyData), (∀ H', ExtN M5 H' → Tls K H' v d tsx) ∧ (∀ H', ExtN M5 H' → Bel K H' u e bs) ∧ (∀ k, toldE d = some k → due = .num k) ∧ (toldE d = none → nlD e = false ∧ due = .word bW) ∧ due.fits
    have elm : ∀ (j : Nat) y, [V.ref u1, .ref u2, .ref u3][j]? = some y → ∃ u v o due, y = .ref u ∧ M5 u = some (.tup [v, o, due.v]) ∧ R2 v o due := fun j y ey => by
      match j, ey with
      | 0, ey =>
        cases ey
        exact ⟨u1, _, _, .num (n : Nat), rfl, w1, _, [], dw, fun H' k => tlD H' (kx (k5' k)), fun H' k => beW H' (k5' k), fun k hk => (by rw [told] at hk; cases hk; rfl), fun z => (by rw [told] at z; cases z), fits_k (by omega)⟩
      | 1, ey =>
        cases ey
        exact ⟨u2, _, _, .word bW, rfl, w2, _, ts, dw, tlU, fun H' k => beW H' (k5' k), fun k hk => (by rw [told3] at hk; cases hk), fun _ => ⟨nlw, rfl⟩, fits_b⟩
      | 2, ey =>
        cases ey
        exact ⟨u3, _, _, .num (0 - 1), rfl, w3, .none, [], lD bs, fun H' k => ⟨.non, ⟨by decide, fun e h => by cases h⟩, fun z => (by cases z), by decide⟩, fun H' k => beB H' (k5' k), fun k hk => (by cases hk; rfl), fun z => (by cases z), fits_k (by decide)⟩
    clear w1 w2 w3 wt
    refine for_sq W2 (fun j σ H' => (∃ o10 o11 o12 o13 o14, σ = σ0 bv o9 o10 o11 o12 o13 o14 (some (.ref fj))) ∧ ExtN M5 H' ∧ Tabs [(Pt, qRef)] H') ⟨⟨_, _, _, _, _, rfl⟩, ExtN.refl _, tb.ext v05⟩ (fun k σ H' pv => W2.keep (fun o e => by rw [w5] at e; cases e; exact pv.2.1 _ _ w5 notbl) z2) ?_ (fun σ H' pv => ⟨let ⟨a, b, c, d, e, z⟩ := pv.1; ⟨a, b, c, d, e, _, z⟩, x5.trans pv.2.1, pv.2.2⟩)
    rintro j σ N0 y ey ⟨⟨o10, o11, o12, o13, o14, rfl⟩, y0, tbj⟩
    obtain ⟨u, v, o, due, rfl, eu', ⟨d, tsx, e, tlx, bex, h1, h2, fit⟩⟩ := elm j y ey
    refine ⟨u, _, rfl, SqT.of (y0 _ _ eu' notbl), rfl, _, _, rfl, _, _, rfl, _, _, rfl, rfl, ?_⟩
    refine ⟨tbj, fun N1 x3 tb3 R hR => ?_⟩
    have xg : ExtN M5 N1 := y0.trans x3
    refine ⟨fj, rfl, cv, _, rfl, _, rfl, lam3 (R := R) (due := due) (tlx _ xg) (bex _ xg) h1 h2 fun N2 s2 => ?_⟩
    refine ⟨due, rfl, fit, _, rfl, due, rfl, fit, rfl, _, rfl, ?_⟩
    rw [show (decide (V.str due.r = V.str due.r)) = true from decide_eq_true rfl]
    exact iteF ⟨⟨_, _, _, _, _, rfl⟩, xg.trans (ExtN.of s2), tb3.ext s2⟩
end
end K6

/-! promises of defs that are called while no repr is under way: the same calculus, one thing more known of what runs around -/
namespace Gu
open PySem PySem.Spec PyProof.Rows L2
abbrev Free (A : Around) : Prop := A.guards = some []
/-- the def at f keeps its promise wherever nothing is being shown -/
structure FnG (P : Program) (w : World) (K : PySem.W.Frag) (mg : Str → Option Value) (base : Heap) (CX : CXT) (k : Nat) (f : Addr) (fd : FuncData) (ps : List Str) (sp : Sp) : Prop where
  many : ∀ vs H Q E, sp vs H Q E → vs.length = ps.length
  go : ∀ (A : Around) (outer : List Env) (s : Shared) (H : Hp) (args : Args) (us : List Value) (vs : List V) (Q : VK) (E : XK), Room k A → Free A → Env0 P w K mg base A outer s H → BindsTo s fd args (ps.zip us) → Vals vs us → sp vs H Q E →
    codeAny (model P w) A (.call (.ref f) args) (CR CX outer P w H s Q E) s
section
variable {P : Program} {w : World} {K : PySem.W.Frag} {mg : Str → Option Value} {base : Heap} {CX : CXT}
/-- a promise that is kept anywhere -/
theorem FnG.of {k : Nat} {f : Addr} {fd : FuncData} {ps : List Str} {sp : Sp} (F : FnOk P w K mg base CX k f fd ps sp) : FnG P w K mg base CX k f fd ps sp := ⟨F.len, fun A o s H a us vs Q E r _ => F.run A o s H a us vs Q E r⟩
theorem deeper_free {A : Around} {env : Env} (h : Free A) : Free (A.deeper env) := h
theorem mk_go {k : Nat} {f : Addr} {name qual : Str} {params : Arguments} {body : List Stmt} {scope : Scope} {dV kV doc pm cdv ct oc : Value} {an od : Option Addr} {osl : Array (Option Value)} {N ps : List Str} {sp : Sp}
    (at_f : K.lookup f = some ⟨oc, od, .func (PySem.W.fnOf name qual params body scope dV kV doc pm an cdv ct), osl⟩) (code : PySem.W.codeIn K cdv qual = true) (S : FnScope N ps scope) (many : ∀ vs H Q E, sp vs H Q E → vs.length = ps.length)
    (inside : ∀ (A : Around) (outer : List Env) (s : Shared) (H : Hp) (vs : List V) (Q : VK) (E : XK), Room k (A.deeper (envOfC qual scope s.heap.objs.size f cdv)) → Free A → sp vs H Q E →
      ∃ t, PSs (cxOf CX P w K mg base N qual scope f cdv A outer s H E) body t ∧ t { nx := fun _ H' => Q .non H', rt := Q } (start N vs) H) :
    FnG P w K mg base CX (k + 1) f (PySem.W.fnOf name qual params body scope dV kV doc pm an cdv ct) ps sp where
  many := many
  go A outer s H args us vs Q E room free e0 binds rel hs := by
    have count := many _ _ _ _ hs
    have stays : ∀ b o, base.get? b = some o → s.heap.get? b = some o := fun b o e => (e0.bs b o e).1
    have inK : K.In s.heap := e0.mod.kin.keeps stays
    refine codeAny_call_function room.depth (inK _ _ at_f) rfl S.co S.gen rfl (PySem.W.codeRec_of inK code) (binds _ _ _ _ ?_)
    refine wpAny_newFunctionEnv_cells S.kind (fun y hy => (S.par y.1 (List.of_mem_zip hy).1).elim Or.inl fun c => .inr ⟨c, PySem.W.cellsFrom_some _ _ _ (.inl c)⟩) fun env made s1 x => ?_
    subst made
    refine ⟨(e0.mod.nolimit.keeps stays).keeps x.toInCall.keep, codeAny_func ?_⟩
    obtain ⟨t, run, rd⟩ := inside A outer s H vs Q E (room.deeper _) free hs
    have I0 := inv_start (CX := CX) (E := E) S room.hd e0 count rel x
    refine wpAny_mono (run.run [] s1 (start N vs) H _ I0 rd) (fun fl s' out => ?_) fun _ _ z => z
    rcases fl with _ | _ | _ | u
    · obtain ⟨_, H', J, q⟩ := out
      exact ⟨V.non, H', J.os, J.bare, J.base, J.hok, rfl, q⟩
    · exact out.elim fun _ z => z.elim fun _ y => False.elim y.2
    · exact out.elim fun _ z => z.elim fun _ y => False.elim y.2
    · obtain ⟨v, _, H', J, rv, q⟩ := out
      exact ⟨v, H', J.os, J.bare, J.base, J.hok, rv, q⟩
end
/-! ### calls -/
section
variable {X : Cx} {CX : CXT} {k : Nat} {f C : Addr} {fd : FuncData} {ps : List Str} {sp : Sp} {dvs : List V} {ds : List Value} {E : XK}
theorem go_call {pins : List (Addr × Obj)} {σ : L2.St} {H : Hp} {s : Shared} {Q : VK} {args : Args} {us : List Value} {vs : List V} (F : FnG X.prog X.w X.K X.mg X.base CX k f fd ps sp) (room : Room k X.A) (free : Free X.A) (hx : Passes CX X E)
    (I : Inv X pins σ H s) (b : BindsTo s fd args (ps.zip us)) (r : Vals vs us) (h : sp vs H Q E) : codeAny (model X.prog X.w) X.A (.call (.ref f) args) (fun r s' => match r with
      | .error e => X.xe e s'
      | .ok (.ret u) => EP X pins σ Q u s'
      | .ok _ => False) s := codeAny_mono (F.go X.A X.stack s H args us vs Q E room free I.env0 b r h) fun r s' out => by
  rcases r with e | fl
  · exact hx pins σ H s e s' I out
  · rcases fl with _ | _ | _ | u <;> first | exact I.after out | exact False.elim out
end
/-- a def of the text, by its promise -/
structure Cg (P : Program) (w : World) (K : PySem.W.Frag) (mg : Str → Option Value) (base : Heap) (CX : CXT) (x : Str) (ps : List Str) (dvs : List V) (lv : Nat) (sp : Sp) : Prop where
  ex : ∃ (f : Addr) (fd : FuncData) (ds : List Value), FnG P w K mg base CX lv f fd ps sp ∧ mg x = some (.ref f) ∧ PySem.W.keepIn K (.ref f) = true ∧ Binds K fd ps ds ∧ Vals dvs ds
section
variable {X : Cx} {CX : CXT} {ps : List Str} {dvs : List V} {lv : Nat} {sp : Sp} {x : Str} {p pos : Pos} {e : Expr} {es : List Expr} {t : TA} {E : XK}
theorem pe_gox (C : Cg X.prog X.w X.K X.mg X.base CX x ps dvs lv sp) (hr : Room lv X.A) (fr : Free X.A) (hx : Passes CX X E) (hg : Gl X x) (ha : PA X (e :: es) t) (hdb : (x == ("__debug__" : Str)) = false := by decide)
    (he : starEach (e :: es) X.env = (false, eval e X.env) :: starEach es X.env := by rfl) (hpl : (backTo pos (starEach es X.env)).any (·.1) = false := by rfl) : PE X (.Call (.Name x p) (e :: es) [] pos) (tCall sp dvs E t) := by
  obtain ⟨f, fd, ds, F, hm, hk, hb, hd⟩ := C.ex
  refine ⟨fun pins s σ H Q I h => wpAny_Call_Name_kw (ld_glob I hg hm ?_ hdb)⟩
  refine PySem.W.callWith_K (h₀ := X.base) I.ok.mod.kin hk (thn (ha.run pos pins s σ H _ I h) fun us s1 ⟨vs, H1, I1, r, q⟩ => ⟨I1.kIn, ?_⟩) he hpl
  have r2 := r.append hd
  refine wpAny_call (codeAny_mono (go_call F hr fr hx I1 (hb s1 us I1.kIn (by rw [← r2.length]; exact F.many _ _ _ _ q)) r2 q) fun r s' z => ?_)
  rcases r with _ | (_ | _ | _ | _) <;> first | exact z | exact z.elim
theorem pe_go (C : Cg X.prog X.w X.K X.mg X.base CX0 x ps dvs lv sp) (hr : Room lv X.A) (fr : Free X.A) (hg : Gl X x) (ha : PA X (e :: es) t) (hdb : (x == ("__debug__" : Str)) = false := by decide)
    (he : starEach (e :: es) X.env = (false, eval e X.env) :: starEach es X.env := by rfl) (hpl : (backTo pos (starEach es X.env)).any (·.1) = false := by rfl) : PE X (.Call (.Name x p) (e :: es) [] pos) (tCall sp dvs E0 t) :=
  pe_gox C hr fr pass0 hg ha hdb he hpl
end
/-! ### repr of data -/
def rRepr (K : PySem.W.Frag) : List V → Hp → VK → Prop := fun xs H Q => ∃ v d, xs = [v] ∧ Dp K H v d ∧ PyData.showable d = true ∧ PyData.hasDict d = false ∧ PyData.depth d < 40 ∧ (PyData.shown d).length ≤ sizeLine ∧ Q (.str (PyData.shown d)) H
theorem cr_repr {X : Cx} (fr : Free X.A) (hu : X.A.units + 64 < cLine) : CallR X (.builtin "repr") (rRepr X.K) := by
  intro pins s σ H xs us Q I r h
  obtain ⟨v, d, rfl, hd, hs, hn, hdp, hz, q⟩ := h
  obtain ⟨u, rfl, ru⟩ := vals1 r
  obtain ⟨as, rd⟩ := Dp.reads I d v u hd ru
  cases hd with
  | non =>
    cases (show u = Value.none from ru)
    exact P.repr_of_none ⟨.str _, H, I.tok _, ⟨_, rfl⟩, q⟩
  | bl b =>
    cases (show u = Value.bool b from ru)
    refine P.repr_of_bool ⟨.str _, H, I.tok _, ⟨_, rfl⟩, ?_⟩
    cases b <;> exact q
  | int i =>
    obtain ⟨t, rfl⟩ := (show ∃ t, u = Value.int i t from ru)
    exact P.repr_of_int (of_decide_eq_true hs) ⟨.str _, H, I.tok _, ⟨_, rfl⟩, q⟩
  | str x =>
    obtain ⟨t, rfl⟩ := (show ∃ t, u = Value.str x t from ru)
    exact P.repr_of_str ⟨.str _, H, I.tok _, ⟨_, rfl⟩, q⟩ hz
  | lst _ _ =>
    cases (show u = Value.ref _ from ru)
    exact repr_of_reads' rd hs (PyData.noDict_hsm hn) fr (by omega) (fun _ _ e => e) (fun h' t tk k => ⟨.str _, H, I.kept k, ⟨_, rfl⟩, q⟩) hz
  | tup _ _ =>
    cases (show u = Value.ref _ from ru)
    exact repr_of_reads' rd hs (PyData.noDict_hsm hn) fr (by omega) (fun _ _ e => e) (fun h' t tk k => ⟨.str _, H, I.kept k, ⟨_, rfl⟩, q⟩) hz
/-! ### the law's own call -/
section
variable {P : Program} {w : World} {K : PySem.W.Frag} {mg : Str → Option Value} {CX : CXT}
/-- from a heap H in which nothing but the script at a may be tracked -/
theorem law_from {mb : Str → Option Value} {k : Nat} {fa a : Addr} {fd : FuncData} {x : Str} {sp : Sp} {s : Shared} {vs : List Value} {H : Hp}
    (inK : K.In s.heap) (globs : s.heap.Ns mainGlobals mg) (blt : s.heap.Ns builtinsNs mb) (same : ∀ x : Str, x ≠ "__name__" → mb x = bootBuiltins x) (lim : s.heap.NoLimit) (bare : s.gens = #[])
    (obj : s.heap.get? a = some { cls := .type "list", data := .seq vs.toArray }) (room : Room k callerA) (F : ∀ base : Heap, K.In base → base.Ns mainGlobals mg → FnG P w K mg base CX k fa fd [x] sp) (bind : ∀ (s : Shared) (u : Value), BindsTo s fd ⟨[u], []⟩ [(x, u)])
    (none_else : ∀ b u, H b = some u → b = a ∧ (∃ o xs, u = .frz o (.lst xs)) ∧ K.lookup a = none) (ok : HOk P w H s.heap) (hsp : sp [.ref a] H (fun v _ => v = .bl true) fun _ _ _ => False)
    (hCX : ∀ e s', CX [] H s (fun _ _ _ => False) e s' → False) :
    codeAny (model P w) callerA (.call (.ref fa) ⟨[.ref a], []⟩) (fun r s' => r = .ok (.ret (.bool true)) ∧ OldK s.heap s'.heap ∧ s'.os = s.os ∧ AllBare s'.gens) s := by
  have free_of : ∀ b, b ≠ a → H b = none := fun b n => by
    rcases e : H b with _ | u
    · rfl
    · exact absurd (none_else b u e).1 n
  have low : ∀ {b o}, s.heap.get? b = some o → H b = none → (hidT s.heap H).get? b = some o := fun e n => hidT_get e n
  have dicts : ∀ {b : Addr} {m : Str → Option Value}, s.heap.Ns b m → (hidT s.heap H).Ns b m := fun {b m} ⟨o, es, ep, e, d, r⟩ => by
    refine ⟨o, es, ep, low e (free_of b fun z => ?_), d, r⟩
    rw [z, obj] at e
    cases e
    exact nomatch (show Data.seq vs.toArray _ = Data.dict es ep from d)
  have kin : K.In (hidT s.heap H) := fun b o e => low (inK b o e) (by
    rcases q : H b with _ | u
    · rfl
    · obtain ⟨rfl, _, z⟩ := none_else b u q
      rw [z] at e
      cases e)
  have modl : Mod K mg (hidT s.heap H) := ⟨kin, dicts globs, ⟨mb, dicts blt, same⟩, let ⟨mc, h1, h2⟩ := lim; ⟨mc, dicts h1, h2⟩⟩
  have env : Env0 P w K mg (hidT s.heap H) callerA [] s H := ⟨rfl, modl, fun b o e => of_hidT e, Nat.le_of_eq (hidT_size _ _), trivial, fun b hb => (nomatch hb), ok, .of_eq bare⟩
  refine codeAny_mono ((F _ kin (dicts globs)).go callerA [] s H ⟨[.ref a], []⟩ [.ref a] [.ref a] _ _ room rfl env (bind s (.ref a)) (.cons rfl .nil) hsp) fun r s' out => ?_
  rcases r with e | fl
  · exact (hCX e s' out).elim
  · rcases fl with _ | _ | _ | u <;> try exact False.elim out
    obtain ⟨v, H', os, b', un, ok', rv, hv⟩ := out
    obtain rfl : v = .bl true := hv
    obtain rfl : u = Value.bool true := rv
    refine ⟨rfl, OldK.of_keep fun b o e => ?_, os, b'⟩
    rcases q : H b with _ | z
    · exact un.keep b o e q (fun m => nomatch m) (by simp)
    · obtain ⟨_, ⟨o1, xs, rfl⟩, _⟩ := none_else b z q
      have z2 := un.frzs b o1 _ q
      have old := (ok b _ q).1
      rw [e] at old
      cases old
      exact (ok' b _ z2).1
theorem law_go {mb : Str → Option Value} {k : Nat} {fa a : Addr} {fd : FuncData} {x : Str} {sp : Sp} {s : Shared} {vs : List Value} {ns : List Int}
    (inK : K.In s.heap) (globs : s.heap.Ns mainGlobals mg) (blt : s.heap.Ns builtinsNs mb) (same : ∀ x : Str, x ≠ "__name__" → mb x = bootBuiltins x) (lim : s.heap.NoLimit) (bare : s.gens = #[])
    (obj : s.heap.get? a = some { cls := .type "list", data := .seq vs.toArray }) (ivs : IntsAre vs ns) (size : ns.length ≤ sizeLine) (room : Room k callerA) (F : ∀ base : Heap, K.In base → base.Ns mainGlobals mg → FnG P w K mg base CX k fa fd [x] sp) (bind : ∀ (s : Shared) (u : Value), BindsTo s fd ⟨[u], []⟩ [(x, u)])
    (hsp : ∀ H : Hp, SqL K H a (ns.map V.int) → sp [.ref a] H (fun v _ => v = .bl true) fun _ _ _ => False) (hCX : ∀ H e s', CX [] H s (fun _ _ _ => False) e s' → False) :
    codeAny (model P w) callerA (.call (.ref fa) ⟨[.ref a], []⟩) (fun r s' => r = .ok (.ret (.bool true)) ∧ OldK s.heap s'.heap ∧ s'.os = s.os ∧ AllBare s'.gens) s := by
  have rv := vals_ints ivs
  have cnt := ivs.length
  rcases own : K.lookup a with _ | o
  · refine law_from (H := fun b => if b = a then some (.frz { cls := .type "list", data := .seq vs.toArray } (.lst (ns.map V.int))) else none) inK globs blt same lim bare obj room F bind (fun b u e => ?_) (fun b u e => ?_)
      (hsp _ (.inl (.inr ⟨_, if_pos rfl⟩))) (fun e s' => hCX _ e s')
    · by_cases hb : b = a
      · rw [if_pos hb] at e
        exact ⟨hb, ⟨_, _, (Option.some.inj e).symm⟩, own⟩
      · rw [if_neg hb] at e
        cases e
    · by_cases hb : b = a
      · subst hb
        have e' := (if_pos rfl).symm.trans e
        cases e'
        exact ⟨obj, by rw [List.length_map]; exact size, vs, _, rv, obj⟩
      · have e' := (if_neg hb).symm.trans e
        cases e'
  · have w0 := inK a o own
    rw [obj] at w0
    cases w0
    exact law_from (H := fun _ => none) inK globs blt same lim bare obj room F bind (fun b u e => (nomatch e)) (fun b u e => (nomatch e))
      (hsp _ (.inr ⟨_, vs.toArray, _, own, rfl, rfl, rfl, by rw [List.size_toArray, cnt]; exact size, by simpa using rv⟩)) (fun e s' => hCX _ e s')
end
theorem walk_go {l : PySem.W.OpenLaw} {n k : Nat} {q : Program} {loose : List Str} {XP : (Str → Option Value) → Heap → Prop} {YP : World → Heap → Prop} {d : DefRec} {K : Params → PySem.W.Frag} {sp : World → Sp} {x : Str}
    (most : l.most = some n) (small : n ≤ sizeLine) (nodf : d.params.defaults = []) (room : Room k callerA) (hY : ∀ (w : World) (h : Heap), YP w h → (K w.params).In h)
    (F : ∀ (w : World) (mg : Str → Option Value) (fa : Addr) (h : Heap), (K w.params).In h → h.Ns mainGlobals mg → mg d.name = some (.ref fa) →
      ∃ fd : FuncData, (∀ (s : Shared) (u : Value), BindsTo s fd ⟨[u], []⟩ [(x, u)]) ∧ ∀ base : Heap, (K w.params).In base → base.Ns mainGlobals mg → FnG l.prog w (K w.params) mg base CX0 k fa fd [x] (sp w))
    (hsp : ∀ (w : World) (H : Hp) (a : Addr) (ns : List Int), ns.length ≤ n → SqL (K w.params) H a (ns.map V.int) → sp w [.ref a] H (fun v _ => v = .bl true) fun _ _ _ => False) :
    PySem.W.WalkO q loose XP YP l.row.toRowW d [] (fun f vs => PySem.call f vs) := by
  refine Att.attach_call most nodf fun w s₀ s₁ mg mb fa o pm cd doc a vs ns G Y _ _ _ named obj ivs len bare => ?_
  obtain ⟨fd, bind, FF⟩ := F w mg fa _ (hY w _ Y) G.T.g named
  exact law_go (hY w _ Y) G.T.g G.T.b G.T.builtins G.T.nolimit bare obj ivs (Nat.le_trans len small) room FF bind (fun H S => hsp w H a ns len S) fun H e s' z => z
end Gu

/-! what repr shows of nested tuples of small leaves -/
namespace Rp
open PySem PySem.Spec PyProof.Rows L2 Hb St Sq Gu
theorem depthAll_le {n : Nat} : ∀ {l : List PyData}, (∀ d ∈ l, d.depth ≤ n) → PyData.depthAll l ≤ n
  | [], _ => by simp [PyData.depthAll]
  | d :: l, h => by
    have h1 := h d List.mem_cons_self
    have h2 := depthAll_le fun e he => h e (List.mem_cons_of_mem _ he)
    simp only [PyData.depthAll]
    omega
/-! ### what repr shows -/
structure RpOk (d : PyData) : Prop where
  sh : PyData.showable d = true
  nd : PyData.hasDict d = false
  dp : PyData.depth d < 40
  ln : (PyData.shown d).length ≤ sizeLine
theorem rd_repr {K : PySem.W.Frag} {H : Hp} {Q : VK} {v : V} {d : PyData} (h : Dp K H v d) (r : RpOk d) (q : Q (.str (PyData.shown d)) H) : rRepr K [v] H Q := ⟨v, d, rfl, h, r.sh, r.nd, r.dp, r.ln, q⟩
mutual
def sml : PyData → Bool
  | .int i => decide (i.natAbs < 1000)
  | .str s => PyData.strOk s && decide (s.length ≤ 20)
  | .tuple xs => smlA xs
  | _ => false
def smlA : List PyData → Bool
  | [] => true
  | x :: xs => sml x && smlA xs
end
theorem smlA_iff : ∀ {ds : List PyData}, smlA ds = true ↔ ∀ d ∈ ds, sml d = true
  | [] => by simp [smlA]
  | d :: ds => by rw [smlA, Bool.and_eq_true, smlA_iff]; simp
theorem log_small {i : Int} (h : i.natAbs < 1000) : i.natAbs.log2 < 10 := by
  by_cases c : i.natAbs = 0
  · rw [c]; decide
  · exact (Nat.log2_lt c).mpr (by omega)
mutual
theorem sml_all : ∀ d : PyData, sml d = true → PyData.showable d = true ∧ PyData.hasDict d = false ∧ PyData.canLay0 d = true ∧ PyData.intsShort 13 d = true
  | .int i, h => by
    have h : i.natAbs < 1000 := by simpa [sml] using h
    refine ⟨?_, by simp [PyData.hasDict], by simp [PyData.canLay0], ?_⟩
    · simp only [PyData.showable, decide_eq_true_eq]
      have := log_small h
      omega
    · simp only [PyData.intsShort, decide_eq_true_eq]
      exact PyData.shown_int_le (by omega)
  | .str s, h => by
    obtain ⟨h1, h2⟩ : PyData.strOk s = true ∧ s.length ≤ 20 := by simpa [sml] using h
    exact ⟨by simp [PyData.showable], by simp [PyData.hasDict], by simpa [PyData.canLay0] using h1, by simp [PyData.intsShort]⟩
  | .tuple xs, h => by
    obtain ⟨a, b, c, e⟩ := smlA_all xs (by simpa [sml] using h)
    exact ⟨by simpa [PyData.showable] using a, by simpa [PyData.hasDict] using b, by simpa [PyData.canLay0] using c, by simpa [PyData.intsShort] using e⟩
  | .none, h => by simp [sml] at h
  | .bool _, h => by simp [sml] at h
  | .list _, h => by simp [sml] at h
  | .dict _, h => by simp [sml] at h
theorem smlA_all : ∀ ds : List PyData, smlA ds = true → PyData.showableAll ds = true ∧ PyData.hasDictAll ds = false ∧ PyData.canLayAll0 ds = true ∧ PyData.intsShortAll 13 ds = true
  | [], _ => by simp [PyData.showableAll, PyData.hasDictAll, PyData.canLayAll0, PyData.intsShortAll]
  | d :: ds, h => by
    obtain ⟨h1, h2⟩ : sml d = true ∧ smlA ds = true := by simpa [smlA] using h
    obtain ⟨a, b, c, e⟩ := sml_all d h1
    obtain ⟨a2, b2, c2, e2⟩ := smlA_all ds h2
    exact ⟨by simp [PyData.showableAll, a, a2], by simp [PyData.hasDictAll, b, b2], by simp [PyData.canLayAll0, c, c2], by simp [PyData.intsShortAll, e, e2]⟩
end
theorem rp_sml {d : PyData} (h : sml d = true) (hd : d.depth < 40) (hw : d.weight ≤ 2 ^ 20) : RpOk d := by
  obtain ⟨a, b, c, e⟩ := sml_all d h
  exact ⟨a, b, hd, PyData.shown_fits (B := 13) (by decide) (by decide) (PyData.leavesShort_of_canLay0 13 d c e) hw⟩
theorem weightAll_le {n : Nat} : ∀ {l : List PyData}, (∀ d ∈ l, d.weight ≤ n) → PyData.weightAll l ≤ l.length * (n + 1)
  | [], _ => by simp [PyData.weightAll]
  | d :: l, h => by
    have h1 := h d List.mem_cons_self
    have h2 := weightAll_le fun e he => h e (List.mem_cons_of_mem _ he)
    simp only [PyData.weightAll, List.length_cons, Nat.add_mul, Nat.one_mul]
    omega
theorem leaf_w {d : PyData} (h : sml d = true) (hn : ∀ xs, d ≠ .tuple xs) : d.weight ≤ 20 ∧ d.depth ≤ 1 := by
  cases d with
  | int i =>
    have h : i.natAbs < 1000 := by simpa [sml] using h
    have := log_small h
    simp only [PyData.weight, PyData.depth]
    split <;> omega
  | str s =>
    obtain ⟨h1, h2⟩ : PyData.strOk s = true ∧ s.length ≤ 20 := by simpa [sml] using h
    exact ⟨h2, by simp [PyData.depth]⟩
  | tuple xs => exact absurd rfl (hn xs)
  | none => simp [sml] at h
  | bool _ => simp [sml] at h
  | list _ => simp [sml] at h
  | dict _ => simp [sml] at h
/-- small: leaves, weight, depth -/
structure Sml (d : PyData) (n k : Nat) : Prop where
  ok : sml d = true
  w : d.weight ≤ n
  dp : d.depth ≤ k
theorem sml_leaf {d : PyData} (h : sml d = true) (hn : ∀ xs, d ≠ .tuple xs) : Sml d 20 1 := ⟨h, (leaf_w h hn).1, (leaf_w h hn).2⟩
theorem sml_int {i : Int} (h : i.natAbs < 1000) : Sml (.int i) 20 1 := sml_leaf (by simp [sml, h]) (fun _ z => by cases z)
theorem sml_str {s : Str} (h : PyData.strOk s = true) (l : s.length ≤ 20) : Sml (.str s) 20 1 := sml_leaf (by simp [sml, h, l]) (fun _ z => by cases z)
theorem sml_tup {n k m : Nat} {xs : List PyData} (h : ∀ d ∈ xs, Sml d n k) (l : xs.length ≤ m) : Sml (.tuple xs) (m * (n + 1)) (k + 1) := by
  refine ⟨by rw [sml, smlA_iff]; exact fun d hd => (h d hd).ok, ?_, ?_⟩
  · simp only [PyData.weight]
    exact Nat.le_trans (weightAll_le fun d hd => (h d hd).w) (Nat.mul_le_mul_right _ l)
  · have := depthAll_le fun d hd => (h d hd).dp
    simp only [PyData.depth]
    omega
theorem Sml.mono {d : PyData} {n k n' k' : Nat} (s : Sml d n k) (a : n ≤ n') (b : k ≤ k') : Sml d n' k' := ⟨s.ok, Nat.le_trans s.w a, Nat.le_trans s.dp b⟩
theorem Sml.rp {d : PyData} {n k : Nat} (s : Sml d n k) (a : n ≤ 2 ^ 20) (b : k < 40) : RpOk d := rp_sml s.ok (Nat.lt_of_le_of_lt s.dp b) (Nat.le_trans s.w a)
theorem rp_none : RpOk .none := ⟨rfl, rfl, by simp [PyData.depth], Nat.le_trans (show _ ≤ 5 by decide) (by decide)⟩
theorem rp_int {i : Int} (h : i.natAbs < 1000) : RpOk (.int i) := (sml_int h).rp (by decide) (by decide)
end Rp

/-! what repr shows of nested tuples of leaves: integers of at most 21 figures (RpA: of three) -/
namespace Rq
open PySem PySem.Spec PyProof.Rows L2 Hb St Sq Gu Rp
/-! ### what repr shows -/
mutual
def sml : PyData → Bool
  | .int i => decide (i.natAbs < 10 ^ 21)
  | .str s => PyData.strOk s && decide (s.length ≤ 20)
  | .tuple xs => smlA xs
  | _ => false
def smlA : List PyData → Bool
  | [] => true
  | x :: xs => sml x && smlA xs
end
theorem smlA_iff : ∀ {ds : List PyData}, smlA ds = true ↔ ∀ d ∈ ds, sml d = true
  | [] => by simp [smlA]
  | d :: ds => by rw [smlA, Bool.and_eq_true, smlA_iff]; simp
theorem int21 {i : Int} (h : i.natAbs < 10 ^ 21) : (PyData.shown (.int i)).length ≤ 22 := by
  have e := int_text_length_le10 (k := 21) (by decide) h
  show (Str.ofString (toString i)).length ≤ 22
  rw [PySem.ofString_length]; exact e
theorem fits22 {d : PyData} (hl : d.leavesShort 22 = true) (hw : d.weight ≤ 2 ^ 19) : d.shown.length ≤ sizeLine := by
  have h := PyData.shown_le 22 (by decide) d hl
  have e : (2 : Nat) ^ 19 = 524288 := by decide
  rw [sizeLine_eq]
  omega
theorem log_small {i : Int} (h : i.natAbs < 10 ^ 21) : i.natAbs.log2 < 70 := by
  by_cases c : i.natAbs = 0
  · rw [c]; decide
  · exact (Nat.log2_lt c).mpr (by omega)
mutual
theorem sml_all : ∀ d : PyData, sml d = true → PyData.showable d = true ∧ PyData.hasDict d = false ∧ PyData.canLay0 d = true ∧ PyData.intsShort 22 d = true
  | .int i, h => by
    have h : i.natAbs < 10 ^ 21 := by simpa [sml] using h
    refine ⟨?_, by simp [PyData.hasDict], by simp [PyData.canLay0], ?_⟩
    · simp only [PyData.showable, decide_eq_true_eq]
      have := log_small h
      omega
    · simp only [PyData.intsShort, decide_eq_true_eq]
      exact int21 h
  | .str s, h => by
    obtain ⟨h1, h2⟩ : PyData.strOk s = true ∧ s.length ≤ 20 := by simpa [sml] using h
    exact ⟨by simp [PyData.showable], by simp [PyData.hasDict], by simpa [PyData.canLay0] using h1, by simp [PyData.intsShort]⟩
  | .tuple xs, h => by
    obtain ⟨a, b, c, e⟩ := smlA_all xs (by simpa [sml] using h)
    exact ⟨by simpa [PyData.showable] using a, by simpa [PyData.hasDict] using b, by simpa [PyData.canLay0] using c, by simpa [PyData.intsShort] using e⟩
  | .none, h => by simp [sml] at h
  | .bool _, h => by simp [sml] at h
  | .list _, h => by simp [sml] at h
  | .dict _, h => by simp [sml] at h
theorem smlA_all : ∀ ds : List PyData, smlA ds = true → PyData.showableAll ds = true ∧ PyData.hasDictAll ds = false ∧ PyData.canLayAll0 ds = true ∧ PyData.intsShortAll 22 ds = true
  | [], _ => by simp [PyData.showableAll, PyData.hasDictAll, PyData.canLayAll0, PyData.intsShortAll]
  | d :: ds, h => by
    obtain ⟨h1, h2⟩ : sml d = true ∧ smlA ds = true := by simpa [smlA] using h
    obtain ⟨a, b, c, e⟩ := sml_all d h1
    obtain ⟨a2, b2, c2, e2⟩ := smlA_all ds h2
    exact ⟨by simp [PyData.showableAll, a, a2], by simp [PyData.hasDictAll, b, b2], by simp [PyData.canLayAll0, c, c2], by simp [PyData.intsShortAll, e, e2]⟩
end
theorem rp_sml {d : PyData} (h : sml d = true) (hd : d.depth < 40) (hw : d.weight ≤ 2 ^ 19) : RpOk d := by
  obtain ⟨a, b, c, e⟩ := sml_all d h
  exact ⟨a, b, hd, fits22 (PyData.leavesShort_of_canLay0 22 d c e) hw⟩
theorem leaf_w {d : PyData} (h : sml d = true) (hn : ∀ xs, d ≠ .tuple xs) : d.weight ≤ 71 ∧ d.depth ≤ 1 := by
  cases d with
  | int i =>
    have h : i.natAbs < 10 ^ 21 := by simpa [sml] using h
    have := log_small h
    simp only [PyData.weight, PyData.depth]
    split <;> omega
  | str s =>
    obtain ⟨h1, h2⟩ : PyData.strOk s = true ∧ s.length ≤ 20 := by simpa [sml] using h
    have h2 : s.cps.size ≤ 20 := h2
    exact ⟨by simp only [PyData.weight]; omega, by simp [PyData.depth]⟩
  | tuple xs => exact absurd rfl (hn xs)
  | none => simp [sml] at h
  | bool _ => simp [sml] at h
  | list _ => simp [sml] at h
  | dict _ => simp [sml] at h
/-- small: leaves, weight, depth -/
structure Sml (d : PyData) (n k : Nat) : Prop where
  ok : sml d = true
  w : d.weight ≤ n
  dp : d.depth ≤ k
theorem sml_leaf {d : PyData} (h : sml d = true) (hn : ∀ xs, d ≠ .tuple xs) : Sml d 71 1 := ⟨h, (leaf_w h hn).1, (leaf_w h hn).2⟩
theorem sml_int {i : Int} (h : i.natAbs < 10 ^ 21) : Sml (.int i) 71 1 := sml_leaf (by simp [sml, h]) (fun _ z => by cases z)
theorem sml_str {s : Str} (h : PyData.strOk s = true) (l : s.length ≤ 20) : Sml (.str s) 71 1 := sml_leaf (by simp [sml, h, l]) (fun _ z => by cases z)
theorem sml_tup {n k m : Nat} {xs : List PyData} (h : ∀ d ∈ xs, Sml d n k) (l : xs.length ≤ m) : Sml (.tuple xs) (m * (n + 1)) (k + 1) := by
  refine ⟨by rw [sml, smlA_iff]; exact fun d hd => (h d hd).ok, ?_, ?_⟩
  · simp only [PyData.weight]
    exact Nat.le_trans (weightAll_le fun d hd => (h d hd).w) (Nat.mul_le_mul_right _ l)
  · have := depthAll_le fun d hd => (h d hd).dp
    simp only [PyData.depth]
    omega
theorem Sml.mono {d : PyData} {n k n' k' : Nat} (s : Sml d n k) (a : n ≤ n') (b : k ≤ k') : Sml d n' k' := ⟨s.ok, Nat.le_trans s.w a, Nat.le_trans s.dp b⟩
theorem Sml.rp {d : PyData} {n k : Nat} (s : Sml d n k) (a : n ≤ 2 ^ 19) (b : k < 40) : RpOk d := rp_sml s.ok (Nat.lt_of_le_of_lt s.dp b) (Nat.le_trans s.w a)
theorem rp_int {i : Int} (h : i.natAbs < 10 ^ 21) : RpOk (.int i) := (sml_int h).rp (by decide) (by decide)
end Rq


namespace Kw
open PySem PySem.Spec PyProof.Rows L2 Hb Ow
/-- repr of a bool -/
theorem call_repr_bl {X : Cx} : CallR X (.builtin "repr") (fun xs H Q => ∃ b : Bool, xs = [.bl b] ∧ Q (.str (if b then "True" else "False")) H) := by
  intro pins s σ H xs us Q I r h
  obtain ⟨b, rfl, q⟩ := h
  obtain ⟨u, rfl, rx⟩ := vals1 r
  obtain rfl : u = Value.bool b := rx
  exact PySem.P.repr_of_bool ⟨.str _, H, I.tok _, ⟨_, rfl⟩, q⟩
theorem vals_app {a b : List V} {x y : List Value} (h : Vals a x) (k : Vals b y) : Vals (a ++ b) (x ++ y) := by
  induction h with
  | nil => exact k
  | cons r _ ih => exact .cons r ih
theorem vals_rev {a : List V} {x : List Value} (h : Vals a x) : Vals a.reverse x.reverse := by
  induction h with
  | nil => exact .nil
  | cons r _ ih => rw [List.reverse_cons, List.reverse_cons]; exact vals_app ih (.cons r .nil)
/-- a def without defaults, all parameters by name, from the last one to the first -/
theorem kb_rev {K : PySem.W.Frag} {x qual : Str} {st : Stmt} {f : Addr} {fd : FuncData} {ps ks : List Str} (F : Fun K x qual st f fd)
    (h : ∀ (kV doc pm : Value) (an : Option Addr) (cdv ct : Value) (ws : List Value), ws.length = ks.length → bindArgs (PySem.W.fnOf x qual (defArgs st) (defBody st) (defScope st) .none kV doc pm an cdv ct) ⟨[], ks.zip ws⟩ = pure (ps.zip ws.reverse)) : KBn K fd ps 0 ks (fun _ ws => ws.reverse) (fun _ zs => zs.reverse) := by
  obtain ⟨oc, od, kV, doc, pm, an, cdv, ct, osl, rfl, lk, hcd⟩ := F.ex
  refine ⟨fun s us ws X l1 l2 => ?_, fun r1 r2 => vals_rev r2⟩
  obtain rfl := List.eq_nil_of_length_eq_zero l1
  exact .of_eq (h kV doc pm an cdv ct ws l2)
end Kw

namespace K6
open PySem PySem.Spec PyProof.Rows L2 Hb St Sq Ow En Zp RZ Rd Xb Da Lo Wa LamX Lc Lp Lg Ty Tm Rp
/-! ### tales, bells, namings as data -/
def TsB (ns : List Str) (k : Nat) (ts : List Tale) : Prop := ∀ t ∈ ts, TlIn ns t ∧ t.length ≤ k
theorem TsB.ok {ns : List Str} {k : Nat} {ts : List Tale} (h : TsB ns k ts) (hk : k ≤ 100) (nok : NsOk ns) : ∀ t ∈ ts, TlOk t ∧ ∀ m ∈ t, m.length < 64 := fun t m => by
  obtain ⟨h1, h2⟩ := h t m
  exact ⟨h1.ok nok (by omega), fun l hl => by have := LotIn.len nok ⟨h1.ne l hl, h1.asc l hl, h1.inn l hl⟩; omega⟩
theorem no_firstL : ∀ {ds : List PyData}, (∀ d ∈ ds, taleD d = true) → firstNo ds = none := fun {ds} h => by
  unfold firstNo
  rw [List.findIdx?_eq_none_iff]
  intro d hd
  rw [h d hd]; rfl
theorem TsB.told {ns : List Str} {k : Nat} {ts : List Tale} (h : TsB ns k ts) (nok : NsOk ns) : firstNo (ts.map tD) = none := no_firstL fun d hd => by
  obtain ⟨t, ht, rfl⟩ := List.mem_map.mp hd
  exact tale_D nok (h t ht).1
theorem TsB.sm {ns : List Str} {k : Nat} {ts : List Tale} (h : TsB ns k ts) (hk : k ≤ 100) (nok : NsOk ns) (l30 : ts.length ≤ 30) : (ts.map tD).length ≤ 1000 ∧ ∀ e ∈ ts.map tD, Sm2 e := by
  refine ⟨by rw [List.length_map]; omega, fun e he => ?_⟩
  obtain ⟨t, ht, rfl⟩ := List.mem_map.mp he
  exact tale_sm nok (h t ht).1 (by have := (h t ht).2; omega)
/-- tales in a list or in a tuple -/
def GivH (H : Hp) (a : Addr) (its : List V) : Prop := H a = some (.lst its) ∨ H a = some (.tup its)
theorem TsB.tls {K : PySem.W.Frag} {H : Hp} {ns : List Str} {k : Nat} {ts : List Tale} (h : TsB ns k ts) (hk : k ≤ 100) (nok : NsOk ns) (l30 : ts.length ≤ 30) {a : Addr} {its : List V} (g : GivH H a its) (al : All2 (TalH H) its ts) : ∃ d, Tls K H (.ref a) d ts ∧ toldE d = none := by
  have dp : DpAll K H its (ts.map tD) := dp_all (fun _ _ r => r.dp) al
  rcases g with e | e
  · refine ⟨.list (ts.map tD), ⟨.lst (SqL.of e) dp, h.sm hk nok l30, fun _ => ⟨⟨a, its, rfl, SqX.lst e, al⟩, h.ok hk nok⟩, l30⟩, ?_⟩
    show (if seqD (.list (ts.map tD)) = false then _ else (firstNo (ts.map tD)).map _) = none
    rw [h.told nok]; rfl
  · refine ⟨.tuple (ts.map tD), ⟨.tup (SqT.of e) dp, h.sm hk nok l30, fun _ => ⟨⟨a, its, rfl, SqX.tup e, al⟩, h.ok hk nok⟩, l30⟩, ?_⟩
    show (if seqD (.tuple (ts.map tD)) = false then _ else (firstNo (ts.map tD)).map _) = none
    rw [h.told nok]; rfl
/-- bells, ascending -/
structure Bs (bs : List Str) : Prop where
  nm : ∀ x ∈ bs, IsNm x
  asc : bs.Pairwise sLt
  l4 : bs.length ≤ 4
theorem Bs.nl {bs : List Str} (b : Bs bs) : nlD (lD bs) = true := by
  cases hb : bs with
  | nil => rfl
  | cons x r =>
    show (lotD (lD (x :: r)) || _) = true
    have : lotD (lD (x :: r)) = true := by
      show (!((x :: r).map PyData.str).isEmpty && (((x :: r).map PyData.str).all nmD && ascD ((x :: r).map .str))) = true
      have e2 : ((x :: r).map PyData.str).all nmD = true := by
        rw [List.all_map, List.all_eq_true]
        exact fun y hy => nm_B (b.nm y (by rw [hb]; exact hy))
      rw [e2, asc_D (x :: r) (by rw [← hb]; exact b.asc)]; rfl
    rw [this]; rfl
theorem Bs.sm {bs : List Str} (b : Bs bs) : Sm1 (lD bs) := by
  refine ⟨by rw [List.length_map]; have := b.l4; omega, fun d hd => ?_⟩
  obtain ⟨x, hx, rfl⟩ := List.mem_map.mp hd
  have := (b.nm x hx).2.1
  show x.length ≤ 1000
  omega
theorem Bs.nd {bs : List Str} (b : Bs bs) : bs.Nodup := asc_nodupS b.asc
theorem bs_dp {K : PySem.W.Frag} {H : Hp} {bs : List Str} {bb : Addr} (e : H bb = some (.tup (bs.map V.str))) : Dp K H (.ref bb) (lD bs) := .tup (SqT.of e) (dp_all (fun _ _ h => by rw [h]; exact .str _) (Sq.All2.of_map (R := fun v x => v = V.str x) (fun _ => rfl) bs))
theorem Bs.bel {K : PySem.W.Frag} {H : Hp} {bs : List Str} {bb : Addr} (b : Bs bs) (e : H bb = some (.tup (bs.map V.str))) : Bel K H (.ref bb) (lD bs) bs := ⟨bs_dp e, b.sm, fun _ => ⟨bb, rfl, e⟩, b.nd, b.l4⟩
/-- a naming of so many bells -/
structure NmOk (k : Nat) (n : Nam) : Prop where
  ln : n.length = k
  in_ : ∀ x ∈ n, 0 ≤ x ∧ x ≤ 10 ^ 20
theorem NmOk.of {k : Nat} (hk : k ≤ 4) {n : Nam} (h : n ∈ namsP k) : NmOk k n := by
  obtain ⟨a, b, c⟩ := nams_at hk h
  exact ⟨a, fun x hx => ⟨b x hx, Int.le_trans (c x hx) (by decide)⟩⟩
theorem NmOk.namD {k : Nat} {n : Nam} (h : NmOk k n) : namD k (iD n) = true := by
  show (decide ((n.map PyData.int).length = k) && (n.map PyData.int).all numD) = true
  rw [List.length_map, decide_eq_true h.ln, List.all_map, Bool.true_and, List.all_eq_true]
  exact fun x hx => decide_eq_true (h.in_ x hx).1
theorem Bs.ears {K : PySem.W.Frag} {H : Hp} {bs : List Str} {bb : Addr} {x : V} {n : Nam} (b : Bs bs) (e : H bb = some (.tup (bs.map V.str))) (h : LotN H x n) (o : NmOk bs.length n) : Ears K H (.ref bb) x (lD bs) (iD n) bs n :=
  ⟨bs_dp e, h.dp, b.sm, by show (n.map PyData.int).length ≤ 1000; rw [List.length_map, o.ln]; have := b.l4; omega, fun _ => ⟨bb, rfl, e⟩, fun _ => ⟨h, o.ln.symm⟩, b.nd⟩
/-! ### what repr shows -/
theorem sml_iD {n : Nam} (l : n.length ≤ 100) (h : ∀ x ∈ n, 0 ≤ x ∧ x ≤ 10 ^ 20) : Rq.Sml (iD n) 7200 2 := by
  refine Rq.sml_tup (n := 71) (k := 1) (xs := n.map .int) (m := 100) (fun d hd => ?_) (by rw [List.length_map]; exact l)
  obtain ⟨x, hx, rfl⟩ := List.mem_map.mp hd
  exact Rq.sml_int (by have := h x hx; omega)
theorem rp_iD {n : Nam} (l : n.length ≤ 100) (h : ∀ x ∈ n, 0 ≤ x ∧ x ≤ 10 ^ 20) : RpOk (iD n) := (sml_iD l h).rp (by decide) (by decide)
theorem rp_tnD {t : List (List Int)} (l : t.length ≤ 60) (h : ∀ m ∈ t, m.length ≤ 100 ∧ ∀ x ∈ m, 0 ≤ x ∧ x ≤ 10 ^ 20) : RpOk (tnD t) := by
  refine (Rq.sml_tup (n := 7200) (k := 2) (xs := t.map iD) (m := 60) (fun d hd => ?_) (by rw [List.length_map]; exact l)).rp (by decide) (by decide)
  obtain ⟨m, hm, rfl⟩ := List.mem_map.mp hd
  exact sml_iD (h m hm).1 (h m hm).2
theorem ton_in {l : Lot} {n : Nam} {t : Tale} (ll : l.length = n.length) : ∀ m ∈ tonT (tone l n) t, (∃ q ∈ t, m.length ≤ q.length) ∧ ∀ x ∈ m, x ∈ n := fun m hm => by
  unfold tonT at hm
  obtain ⟨q, hq, rfl⟩ := List.mem_map.mp (List.mem_filter.mp hm).1
  refine ⟨⟨q, hq, ?_⟩, fun x hx => ?_⟩
  · unfold tonL
    refine Nat.le_trans (len_lotI _) ?_
    rw [List.length_map]
    exact List.length_filter_le _ _
  · unfold tonL at hx
    obtain ⟨y, hy, rfl⟩ := List.mem_map.mp (mem_lotI.mp hx)
    have hp := of_decide_eq_true (List.mem_filter.mp hy).2
    by_cases c : y ∈ l
    · exact tone_mem ll y c
    · rw [tone_out c] at hp
      exact absurd hp (by decide)
theorem rp_ton {l : Lot} {n : Nam} {t : Tale} (o : NmOk l.length n) (lt : t.length ≤ 60) (h : ∀ m ∈ t, m.length < 64) : RpOk (tnD (tonT (tone l n) t)) := by
  refine rp_tnD ?_ fun m hm => ?_
  · unfold tonT
    refine Nat.le_trans (List.length_filter_le _ _) ?_
    rw [List.length_map]; exact lt
  · obtain ⟨⟨q, hq, h1⟩, h2⟩ := ton_in o.ln.symm m hm
    exact ⟨by have := h q hq; omega, fun x hx => o.in_ x (h2 x hx)⟩
theorem rp_nams {k : Nat} (hk : k ≤ 4) {ns : List Nam} (h : ns.Sublist (namsP k)) : RpOk (tnD ns) :=
  rp_tnD (Nat.le_trans h.length_le (Nat.le_trans (nams_len k hk) (by decide))) fun m hm => by
    have o := NmOk.of hk (h.subset hm)
    exact ⟨by rw [o.ln]; omega, o.in_⟩
theorem rp_bool (b : Bool) : RpOk (.bool b) := ⟨rfl, rfl, by simp [PyData.depth], by cases b <;> exact Nat.le_trans (show _ ≤ 5 by decide) (by decide)⟩
theorem TupPrs.dp {K : PySem.W.Frag} {H : Hp} {a : Addr} {ps : List (Nat × Nat)} (h : TupPrs H a ps) : Dp K H (.ref a) (.tuple (ps.map prD)) := by
  obtain ⟨its, e, al⟩ := h
  exact .tup (SqT.of e) (dp_all (fun _ _ r => r.dp) al)
theorem prs_four {n : Nat} (h : n ≤ 4) : (Cb.prs n).length ≤ 6 := by
  match n, h with
  | 0, _ => decide
  | 1, _ => decide
  | 2, _ => decide
  | 3, _ => decide
  | 4, _ => decide
theorem prs_tn (ps : List (Nat × Nat)) : (.tuple (ps.map prD) : PyData) = tnD (ps.map fun p => [(p.1 : Int), (p.2 : Int)]) := by unfold tnD; rw [List.map_map]; rfl
theorem rp_ua {ts : List Tale} {l : Lot} {n : Nam} (h : ts.length ≤ 4) : RpOk (.tuple ((uaF ts l n).map prD)) := by
  rw [prs_tn]
  refine rp_tnD ?_ fun m hm => ?_
  · rw [List.length_map]
    have := Nat.le_trans (List.length_filter_le (fun p : Nat × Nat => leftB l n (ts.getD p.1 []) (ts.getD p.2 [])) (Cb.prs ts.length)) (prs_four h)
    unfold uaF
    omega
  · obtain ⟨p, hp, rfl⟩ := List.mem_map.mp hm
    obtain ⟨m1, m2⟩ := Cb.mem_prs.mp (show (p.1, p.2) ∈ _ from (List.mem_filter.mp hp).1)
    have e : (10 : Int) ^ 20 = 100000000000000000000 := by decide
    refine ⟨by show 2 ≤ 100; decide, fun x hx => ?_⟩
    simp only [List.mem_cons, List.not_mem_nil, or_false] at hx
    rcases hx with rfl | rfl <;> omega
section
variable {K : PySem.W.Frag} {H : Hp} {Q : VK}
theorem sh_prs (ps : List (Nat × Nat)) : Sh 2 (.tuple (ps.map prD)) := by rw [prs_tn]; exact sh_tnD _
theorem rd_nePS {a b : Addr} {ps : List (Nat × Nat)} (h1 : TupPrs H a ps) (h2 : TupPrs H b ps) (q : Q (.bl false) H) : rNeD K (.ref a) (.ref b) H Q :=
  ⟨.tuple (ps.map prD), .tuple (ps.map prD), h1.dp, h2.dp, (sh_prs ps).ok (by decide), (sh_prs ps).ok (by decide), by
    rw [prs_tn, eqv_tnD, decide_eq_true rfl]; exact q⟩
theorem rd_nePN {a t : Addr} {ps : List (Nat × Nat)} (h : TupPrs H a ps) (e : H t = some (.tup [])) (q : Q (.bl (!decide (ps = []))) H) : rNeD K (.ref a) (.ref t) H Q :=
  ⟨.tuple (ps.map prD), .tuple [], h.dp, .tup (SqT.of e) .nil, (sh_prs ps).ok (by decide), by decide, by
    have : PyData.eqv (.tuple (ps.map prD)) (.tuple []) = decide (ps = []) := by cases ps <;> rfl
    rw [this]; exact q⟩
theorem rd_repr2 {v : V} {d : PyData} (h : Dp K H v d) (r : RpOk d) (q : Q (.str (PyData.shown d)) H) : Gu.rRepr K [v] H Q := ⟨v, d, rfl, h, r.sh, r.nd, r.dp, r.ln, q⟩
theorem NamsH.dp {a : Addr} {ns : List Nam} (h : NamsH H a ns) : Dp K H (.ref a) (.list (ns.map iD)) := let ⟨_, e, al⟩ := h; .lst (SqL.of e) (dp_all (fun _ _ r => r.dp) al)
theorem sh_nams (ns : List Nam) : Sh 2 (.list (ns.map iD)) := sh_lst fun l _ => sh_iD l
theorem rd_eqNN {a t : Addr} {ns : List Nam} (h : NamsH H a ns) (e : H t = some (.lst [])) (q : Q (.bl (decide (ns = []))) H) : rEqD K (.ref a) (.ref t) H Q :=
  ⟨.list (ns.map iD), .list [], h.dp, .lst (SqL.of e) .nil, (sh_nams ns).ok (by decide), by decide, by
    have : PyData.eqv (.list (ns.map iD)) (.list []) = decide (ns = []) := by cases ns <;> rfl
    rw [this]; exact q⟩
end
theorem any_nam (ls : List Nam) (l : Nam) : ((ls.map iD).any fun z => PyData.eqv z (iD l)) = decide (l ∈ ls) := by
  rw [List.any_map, Bool.eq_iff_iff, List.any_eq_true, decide_eq_true_iff]
  constructor
  · rintro ⟨z, m, e⟩
    have e : PyData.eqv (iD z) (iD l) = true := e
    rw [eqv_iD, decide_eq_true_iff] at e
    rw [← e]; exact m
  · intro m
    exact ⟨l, m, by show PyData.eqv (iD l) (iD l) = true; rw [eqv_iD, decide_eq_true_iff]⟩
/-! ### the law's sides -/
theorem good_eq (ts : List Tale) (l : Lot) : ((namsP l.length).filter fun n => !decide (n ∈ deafF ts l)) = tellF ts l := by
  unfold tellF deafF
  refine List.filter_congr fun n hn => ?_
  by_cases c : uaF ts l n = []
  · simp [List.mem_filter, c]
  · simp [List.mem_filter, c, hn]
theorem no_any {α : Type} [DecidableEq α] (l : List α) (p : α → Bool) : decide (l.filter p = []) = !l.any p := by
  rw [Bool.eq_iff_iff, decide_eq_true_iff, List.filter_eq_nil_iff, Bool.not_eq_true', List.any_eq_false]
theorem few_one {T : List Nam} {m k : Int} (h : FewI T m) (g : FewI T k) : m = k := by
  obtain ⟨⟨n, hn, e⟩, h2⟩ := h
  obtain ⟨⟨o, ho, f⟩, g2⟩ := g
  have := h2 o ho
  have := g2 n hn
  omega
theorem few_rp {ts : List Tale} {l : Lot} {m : Int} (l4 : l.length ≤ 4) (h : FewI (tellF ts l) m) : RpOk (.int m) := by
  obtain ⟨⟨n, hn, rfl⟩, _⟩ := h
  obtain ⟨_, b, c⟩ := nams_at l4 (List.mem_filter.mp hn).1
  have := mx_le b c
  exact Rp.rp_int (by omega)
theorem mx_zero {n : Nam} {m : Int} (p : ∀ x ∈ n, 0 ≤ x) (h : m ∈ 0 :: n) (k : ∀ y ∈ (0 : Int) :: n, y ≤ m) : m = mxI n := by
  have e : mxI (0 :: n) = mxI n := by unfold mxI; rw [List.foldl_cons]; rfl
  rw [← e, mx_is (n := 0 :: n) (m := m) (fun x hx => ?_) h k]
  rcases List.mem_cons.mp hx with rfl | hx
  · exact Int.le_refl _
  · exact p x hx
theorem pl_in (M : Nat) : ∀ (r ts acc : List Int), (∀ x ∈ acc, 0 ≤ x ∧ x ≤ (M : Int)) → ts.length + r.length ≤ M → (plI ts acc r).length = acc.length + r.length ∧ ∀ x ∈ plI ts acc r, 0 ≤ x ∧ x ≤ (M : Int)
  | [], _, _, h, _ => ⟨rfl, h⟩
  | t :: r, ts, acc, h, l => by
    have l' : ts.length + (r.length + 1) ≤ M := l
    have step : ∀ v : Int, 0 ≤ v ∧ v ≤ (M : Int) → ∀ x ∈ acc ++ [v], 0 ≤ x ∧ x ≤ (M : Int) := fun v hv x hx => by
      rcases List.mem_append.mp hx with g | g
      · exact h x g
      · rw [List.mem_singleton.mp g]; exact hv
    have len : ∀ v : Int, (acc ++ [v]).length + r.length = acc.length + (t :: r).length := fun v => by
      rw [List.length_append]
      show acc.length + 1 + r.length = acc.length + (r.length + 1)
      omega
    rw [plI_cons]
    split
    · split
      · rename_i c
        obtain ⟨e, _⟩ := idxN_at c
        have hi := (List.getElem?_eq_some_iff.mp e).1
        have := pl_in M r ts (acc ++ [(idxN ts t : Int) + 1]) (step _ (by omega)) (by omega)
        rw [len] at this
        exact this
      · have := pl_in M r (ts ++ [t]) (acc ++ [(ts.length : Int) + 1]) (step _ (by omega)) (by rw [List.length_append]; show _ + 1 + _ ≤ _; omega)
        rw [len] at this
        exact this
    · have := pl_in M r ts (acc ++ [0]) (step _ (by omega)) (by omega)
      rw [len] at this
      exact this
theorem plain_rp {n : Nam} (l : n.length ≤ 100) : RpOk (iD (plainN n)) := by
  obtain ⟨a, b⟩ := pl_in 100 n [] [] (fun _ h => by cases h) (by show 0 + n.length ≤ 100; omega)
  have e : (10 : Int) ^ 20 = 100000000000000000000 := by decide
  exact rp_iD (by show (plI [] [] n).length ≤ 100; rw [a]; show 0 + n.length ≤ 100; omega) fun x hx => by have := b x hx; omega
end K6

namespace K6
open PySem PySem.Spec PyProof.Rows L2 Hb St Sq Ow En Zp RZ Rd Xb Da Lo Wa LamX Lc Lp Lg Ty Tm Rp
/-! ### the law -/
abbrev s_law : Stmt := top 51
theorem sc_law : FnScope ["script", "box", "names", "tales", "turn", "bells", "all_told", "drawn", "naming", "tale", "heard", "other", "first", "second", "word", "deaf", "good", "due", "many", "left", "name", "one", "more"] ["script"] (defScope s_law) := ⟨rfl, rfl, rfl, by decide +kernel, rfl, by decide +kernel, by decide +kernel⟩
/-- a def whose body knows that nothing is being shown -/
theorem go_ok {P : Program} {w : World} {K : PySem.W.Frag} {mg : Str → Option Value} {base : Heap} {x qual : Str} {st : Stmt} {f : Addr} {fd : FuncData} {N ps : List Str} {k : Nat} {sp : Sp} (F : Fun K x qual st f fd) (S : FnScope N ps (defScope st)) (many : ∀ vs H Q E, sp vs H Q E → vs.length = ps.length)
    (inside : ∀ (cdv : Value) (A : Around) (outer : List Env) (s : Shared) (H : Hp) (vs : List V) (Q : VK) (E : XK), Room k (A.deeper (envOfC qual (defScope st) s.heap.objs.size f cdv)) → Gu.Free (A.deeper (envOfC qual (defScope st) s.heap.objs.size f cdv)) → sp vs H Q E →
      ∃ t, PSs (cxOf CX0 P w K mg base N qual (defScope st) f cdv A outer s H E).nox (defBody st) t ∧ t { nx := fun _ H' => Q .non H', rt := Q } (start N vs) H) : Gu.FnG P w K mg base CX0 (k + 1) f fd ps sp := by
  obtain ⟨oc, od, kV, doc, pm, an, cdv, ct, osl, rfl, lk, hcd⟩ := F.ex
  refine Gu.mk_go lk hcd S many fun A outer s H vs Q E hr fr hs => ?_
  obtain ⟨t, h, q⟩ := inside cdv A outer s H vs Q E hr fr hs
  exact ⟨t, h.nox, q⟩
theorem units65 {k : Nat} {A : Around} (r : Room k A) : A.units + 65 < cLine := by have := r.un; omega
theorem sqlExt {K : PySem.W.Frag} {H H' : Hp} {a : Addr} {xs : List V} (h : SqL K H a xs) (x : ExtN H H') : SqL K H' a xs := by
  rcases h with (h | ⟨o, h⟩) | h
  · exact .inl (.inl (x _ _ h fun ps z => by cases z))
  · exact .inl (.inr ⟨o, x _ _ h fun ps z => by cases z⟩)
  · exact .inr h
theorem BoxAt.ext {H H' : Hp} {p : Addr} (b : BoxAt H p) (x : ExtN H H') : BoxAt H' p := let ⟨g, s, n, e, r⟩ := b; ⟨g, s, n, x _ _ e (fun ps z => by cases z), r⟩
theorem NamsH.ne {H : Hp} {p a : Addr} {k : Nat} (h : NamsH H a (namsP k)) (b : BoxAt H p) : a ≠ p := by
  rintro rfl
  obtain ⟨g, s, n, e, _⟩ := b
  obtain ⟨its, e2, al⟩ := h
  rw [e] at e2
  cases e2
  generalize namsP k = L at al
  cases al with
  | cons h _ => obtain ⟨_, z, _⟩ := h; cases z
theorem BoxAt.ne_tup {H : Hp} {p a : Addr} {xs : List V} (b : BoxAt H p) (h : H a = some (.tup xs)) : a ≠ p := by
  rintro rfl
  obtain ⟨g, s, n, e, _⟩ := b
  rw [e] at h; cases h
theorem NamsH.kept {H H' : Hp} {p a : Addr} {ns : List Nam} (h : NamsH H a ns) (k : Kept p H H') (b : BoxAt H p) (n : a ≠ p) : NamsH H' a ns :=
  let ⟨its, e, al⟩ := h; ⟨its, k _ _ e n, al.imp fun _ _ r => r.on (b.kept k)⟩
/-- what stands from the tales on -/
structure WD (Pt p l tl : Addr) (ns : List Str) (ts : List Tale) (H : Hp) : Prop where
  hb : BoxAt H p
  ePt : H Pt = some (.tbl #[])
  pp : Pt ≠ p
  el : H l = some (.lst (ns.map V.str))
  lp : l ≠ p
  lt : l ≠ tl
  tp : tl ≠ p
  et : ∃ its, H tl = some (.lst its) ∧ All2 (TalH H) its ts
theorem WD.kept {Pt p l tl : Addr} {ns : List Str} {ts : List Tale} {H H' : Hp} (w : WD Pt p l tl ns ts H) (k : Kept p H H') (b : BoxAt H' p) : WD Pt p l tl ns ts H' :=
  ⟨b, k _ _ w.ePt w.pp, w.pp, k _ _ w.el w.lp, w.lp, w.lt, w.tp, let ⟨its, e, al⟩ := w.et; ⟨its, k _ _ e w.tp, al.imp fun _ _ r => r.on (w.hb.kept k)⟩⟩
theorem WD.same {Pt p l tl : Addr} {ns : List Str} {ts : List Tale} {H H' : Hp} (w : WD Pt p l tl ns ts H) (s : Same H H') : WD Pt p l tl ns ts H' := w.kept (Same.kept s) (w.hb.same s)
/-- what stands from the drawn naming on -/
structure WN (Pt p l tl bb ab db : Addr) (ns : List Str) (ts : List Tale) (bs : List Str) (dn : Nam) (H : Hp) : Prop where
  w : WD Pt p l tl ns ts H
  eb : H bb = some (.tup (bs.map V.str))
  hn : NamsH H ab (namsP bs.length)
  ed : H db = some (.tup (dn.map V.int))
section
variable {Pt p l tl bb ab db : Addr} {ns : List Str} {ts : List Tale} {bs : List Str} {dn : Nam} {H H' : Hp}
theorem WN.kept (e : WN Pt p l tl bb ab db ns ts bs dn H) (k : Kept p H H') (b : BoxAt H' p) : WN Pt p l tl bb ab db ns ts bs dn H' :=
  ⟨e.w.kept k b, k _ _ e.eb (e.w.hb.ne_tup e.eb), e.hn.kept k e.w.hb (e.hn.ne e.w.hb), k _ _ e.ed (e.w.hb.ne_tup e.ed)⟩
theorem WN.same (e : WN Pt p l tl bb ab db ns ts bs dn H) (s : Same H H') : WN Pt p l tl bb ab db ns ts bs dn H' := e.kept (Same.kept s) (e.w.hb.same s)
end
section
variable {P : Program} {w : World} {K : PySem.W.Frag} {mg : Str → Option Value} {base : Heap}
def spLaw (K : PySem.W.Frag) (Pt : Addr) : Sp := fun vs H Q _ => ∃ (a : Addr) (ns : List Int), vs = [.ref a] ∧ SqL K H a (ns.map V.int) ∧ ns.length ≤ 63 ∧ H Pt = some (.tbl #[]) ∧ ∀ H', Q (.bl true) H'
theorem ok_law {f C D Pt : Addr} {fd : FuncData} (F : Fun K "law" "law" s_law f fd) (C__law_all : Cl P w K mg base "_law_all" ["many"] [] 2 (spNams K)) (C__law_box : Cl P w K mg base "_law_box" ["script", "k"] [] 1 (spBox K)) (C__law_changed : Cl P w K mg base "_law_changed" ["box", "tale", "names"] [] 3 (spChanged K)) (C__law_coarser : Cl P w K mg base "_law_coarser" ["naming", "other"] [] 1 (spLCoarse K)) (C__law_left : Cl P w K mg base "_law_left" ["tales", "bells", "naming"] [] 2 (spLLeft K)) (C__law_names : Cl P w K mg base "_law_names" ["box", "many"] [] 3 spNames) (C__law_pick : Cl P w K mg base "_law_pick" ["box", "some"] [] 2 (spPick K)) (C__law_plain : Cl P w K mg base "_law_plain" ["naming"] [] 1 (spPlain K)) (C__law_refused_right : Cl P w K mg base "_law_refused_right" ["box", "tales", "bells", "naming"] [] 10 (spRefus Pt)) (C__law_take : Cl P w K mg base "_law_take" ["box", "many"] [] 1 spTake) (C__law_tale : Cl P w K mg base "_law_tale" ["box", "names", "most"] [] 3 spTale) (C__law_tones : Cl P w K mg base "_law_tones" ["tale", "bells", "naming"] [] 1 (spLTones K))
    (C_coarsest_namings : Cx_ P w K mg base "coarsest_namings" ["tales", "bells"] 7 (spWish2 K C D coF)) (C_fewest_tones : Cx_ P w K mg base "fewest_tones" ["tales", "bells"] 7 (spFew K C D)) (C_finest_deaf : Cx_ P w K mg base "finest_deaf" ["tales", "bells"] 7 (spWish2 K C D fiF)) (C_heard_tones : Cx_ P w K mg base "heard_tones" ["lots", "bells", "naming"] 5 (spHeardD K C D)) (C_is_coarser : Cl P w K mg base "is_coarser" ["naming", "other"] [] 1 (spCoarse K)) (C_plain_naming : Cl P w K mg base "plain_naming" ["naming"] [] 1 (spPlain K)) (C_unheard_pairs : Cx_ P w K mg base "unheard_pairs" ["tales", "bells", "naming"] 7 (spUPairs K C D))
    (K_coarsest_namings : CkX P w K mg base "coarsest_namings" ["tales", "bells"] ["bells", "tales"] (fun _ zs => zs.reverse) 7 (spWish2 K C D coF)) (K_fewest_tones : CkX P w K mg base "fewest_tones" ["tales", "bells"] ["bells", "tales"] (fun _ zs => zs.reverse) 7 (spFew K C D)) (K_finest_deaf : CkX P w K mg base "finest_deaf" ["tales", "bells"] ["bells", "tales"] (fun _ zs => zs.reverse) 7 (spWish2 K C D fiF)) (K_heard_tones : CkX P w K mg base "heard_tones" ["lots", "bells", "naming"] ["naming", "bells", "lots"] (fun _ zs => zs.reverse) 5 (spHeardD K C D)) (K_unheard_pairs : CkX P w K mg base "unheard_pairs" ["tales", "bells", "naming"] ["naming", "bells", "tales"] (fun _ zs => zs.reverse) 7 (spUPairs K C D))
    (K_is_coarser : ClK P w K mg base "is_coarser" ["naming", "other"] 0 ["other", "naming"] (fun _ zs => zs.reverse) 1 (spCoarse K)) (K_plain_naming : ClK P w K mg base "plain_naming" ["naming"] 0 ["naming"] (fun _ zs => zs.reverse) 1 (spPlain K))
    (n_len : mg "len" = none) (n_list : mg "list" = none) (n_max : mg "max" = none) (n_min : mg "min" = none) (n_range : mg "range" = none) (n_repr : mg "repr" = none) (n_sorted : mg "sorted" = none) (n_tuple : mg "tuple" = none) : Gu.FnG P w K mg base CX0 11 f fd ["script"] (spLaw K Pt) := by
  refine go_ok F sc_law (fun vs H Q E h => ?_) (fun cdv A outer s H vs Q E hr fr h => ?_)
  · obtain ⟨_, _, rfl, _⟩ := h
    rfl
  · obtain ⟨a0, nsI, rfl, h0, l0, ePt, q⟩ := h
    refine ⟨_, (Evl.pss_cut (ps_set (i := 1) sc_law.nd rfl (Or.inr rfl) (pe_use C__law_box (hr.mono (by decide)) rfl (pa_cons (pv 0) (pa_cons pe_int pa_nil))))
      (Evl.pss_cut (ps_set (i := 2) sc_law.nd rfl (Or.inl rfl) (pe_use C__law_names (hr.mono (by decide)) rfl (pa_cons (pv 1) (pa_cons (pe_op op_add pe_int (pe_use C__law_take (hr.mono (by decide)) rfl (pa_cons (pv 1) (pa_cons pe_int pa_nil)))) pa_nil))))
      (Evl.pss_cut (ps_set (i := 3) sc_law.nd rfl (Or.inr rfl) (pe_lst (pa_cons (pe_use C__law_tale (hr.mono (by decide)) rfl (pa_cons (pv 1) (pa_cons (pv 2) (pa_cons pe_int pa_nil)))) pa_nil)))
      (Evl.pss_cut (ps_for PassesOwn.never rfl (pi_range1 (by rfl) n_range (pa_cons (pe_use C__law_take (hr.mono (by decide)) rfl (pa_cons (pv 1) (pa_cons pe_int pa_nil))) pa_nil)) (pg_name (i := 4) sc_law.nd rfl (Or.inl rfl))
        (pss_one (ps_expr (pe_bm PySem.F.plainAttrs_list PySem.F.slot_list_append PySem.F.type_list_append mt_append (pv 3) (pa_cons (pe_use C__law_changed (hr.mono (by decide)) rfl (pa_cons (pv 1) (pa_cons (pe_use C__law_pick (hr.mono (by decide)) rfl (pa_cons (pv 1) (pa_cons (pv 3) pa_nil))) (pa_cons (pv 2) pa_nil)))) pa_nil)))))
      (Evl.pss_cut (ps_set (i := 5) sc_law.nd rfl (Or.inr rfl) (pe_lc (own := [("name", 20)]) (g := gName 20) rfl sc_law.nd (pi_seq (pv 2)) (blkOk_by (N := ["script", "box", "names", "tales", "turn", "bells", "all_told", "drawn", "naming", "tale", "heard", "other", "first", "second", "word", "deaf", "good", "due", "many", "left", "name", "one", "more"]) (sc := defScope s_law) (by decide +kernel)) (fun _ _ _ _ _ => pg_name (i := 20) sc_law.nd rfl (Or.inl rfl)) (fun _ _ _ _ _ => pts_one (pt_cmpR op_gt (pe_use C__law_take (hr.mono (by decide)) rfl (pa_cons (pv 1) (pa_cons pe_int pa_nil))) pe_int (nomark _))) (fun _ _ _ _ _ => pv 20)))
      (Evl.pss_cut (ps_if (PW.pt (pw_and (pt_cmpR op_gt (pe_callB call_len_seq (by rfl) n_len PySem.boot_len (pa_cons (pv 5) pa_nil)) pe_int (nomark _)) (pw_and1 (pt_cmpR op_gt (pe_use C__law_take (hr.mono (by decide)) rfl (pa_cons (pv 1) (pa_cons pe_int pa_nil))) pe_int (nomark _))))) (pss_one (ps_set (i := 5) sc_law.nd rfl (Or.inr rfl) (pe_slice (r := rSlL K) sl_list (pv 5) (po_some pe_int) po_none))) pss_nil)
      (Evl.pss_cut (ps_if (PW.pt (pw_and (pt_cmpR op_lt (pe_callB call_len_seq (by rfl) n_len PySem.boot_len (pa_cons (pv 5) pa_nil)) pe_int (nomark _)) (pw_and1 (pt_cmpR op_eq (pe_use C__law_take (hr.mono (by decide)) rfl (pa_cons (pv 1) (pa_cons pe_int pa_nil))) pe_int (nomark _))))) (pss_one (ps_set (i := 5) sc_law.nd rfl (Or.inr rfl) (pe_callB cr_sortedS (by rfl) n_sorted (by decide +kernel) (pa_cons (pe_op op_cat (pv 5) (pe_lst (pa_cons pe_str pa_nil))) pa_nil)))) pss_nil)
      (Evl.pss_cut (ps_asg (pe_tup (pa_cons (pe_callTy call_tuple_of (by rfl) n_tuple (by decide +kernel) (pa_cons (pv 5) pa_nil)) (pa_cons (pe_use C__law_all (hr.mono (by decide)) rfl (pa_cons (pe_callB call_len_seq (by rfl) n_len PySem.boot_len (pa_cons (pv 5) pa_nil)) pa_nil)) pa_nil))) (pg_tup rfl (pgs_cons (pg_name (i := 5) sc_law.nd rfl (Or.inr rfl)) (pgs_cons (pg_name (i := 6) sc_law.nd rfl (Or.inl rfl)) pgs_nil))))
      (Evl.pss_cut (ps_set (i := 7) sc_law.nd rfl (Or.inl rfl) (pe_callTy call_tuple_of (by rfl) n_tuple (by decide +kernel) (pa_cons (pe_lc (own := [("name", 20)]) (g := gName 20) rfl sc_law.nd (pi_seq (pv 5)) (blkOk_by (N := ["script", "box", "names", "tales", "turn", "bells", "all_told", "drawn", "naming", "tale", "heard", "other", "first", "second", "word", "deaf", "good", "due", "many", "left", "name", "one", "more"]) (sc := defScope s_law) (by decide +kernel)) (fun _ _ _ _ _ => pg_name (i := 20) sc_law.nd rfl (Or.inl rfl)) (fun _ _ _ _ _ => pts_nil) (fun _ _ _ _ _ => pe_use C__law_pick (hr.mono (by decide)) rfl (pa_cons (pv 1) (pa_cons (pe_lst (pa_cons pe_int (pa_cons pe_int (pa_cons pe_int (pa_cons pe_int (pa_cons pe_int (pa_cons (pe_op op_pow pe_int pe_int) pa_nil))))))) pa_nil)))) pa_nil)))
      (Evl.pss_cut (ps_if (PW.pt (pw_or (pt_cmpR op_ne (pe_callB (Gu.cr_repr fr hr.units) (by rfl) n_repr (by decide +kernel) (pa_cons (pe_use C_plain_naming (hr.mono (by decide)) rfl (pa_cons (pv 7) pa_nil)) pa_nil)) (pe_callB (Gu.cr_repr fr hr.units) (by rfl) n_repr (by decide +kernel) (pa_cons (pe_use C__law_plain (hr.mono (by decide)) rfl (pa_cons (pv 7) pa_nil)) pa_nil)) (nomark _)) (pw_or1 (pt_cmpR (op_neD hr.units) (pe_useK0 K_plain_naming (hr.mono (by decide)) rfl (pk_cons (pv 7) pk_nil)) (pe_use C_plain_naming (hr.mono (by decide)) rfl (pa_cons (pv 7) pa_nil)) (nomark _))))) (pss_one (ps_ret pe_bl)) pss_nil)
      (Evl.pss_cut (ps_for PassesOwn.never rfl (pi_seq (pe_tup (pa_cons (pv 7) (pa_cons (pe_use C__law_pick (hr.mono (by decide)) rfl (pa_cons (pv 1) (pa_cons (pv 6) pa_nil))) pa_nil)))) (pg_name (i := 8) sc_law.nd rfl (Or.inl rfl))
        (Evl.pss_cut (ps_for PassesOwn.never rfl (pi_seq (pv 3)) (pg_name (i := 9) sc_law.nd rfl (Or.inl rfl))
        (Evl.pss_cut (ps_set (i := 10) sc_law.nd rfl (Or.inl rfl) (pe_useX C_heard_tones (hr.mono (by decide)) (fun σ => passAt L2.takes0 σ) rfl (pa_cons (pv 9) (pa_cons (pv 5) (pa_cons (pv 8) pa_nil)))))
      (pss_one (ps_if (PW.pt (pw_or (pt_cmpR op_ne (pe_callB (Gu.cr_repr fr hr.units) (by rfl) n_repr (by decide +kernel) (pa_cons (pv 10) pa_nil)) (pe_callB (Gu.cr_repr fr hr.units) (by rfl) n_repr (by decide +kernel) (pa_cons (pe_use C__law_tones (hr.mono (by decide)) rfl (pa_cons (pv 9) (pa_cons (pv 5) (pa_cons (pv 8) pa_nil)))) pa_nil)) (nomark _)) (pw_or1 (pt_cmpR (op_neD hr.units) (pe_useKX K_heard_tones (hr.mono (by decide)) (passes_call L2.takes0 fun _ _ _ _ h => h) rfl (pk_cons (pv 8) (pk_cons (pv 5) (pk_cons (pv 9) pk_nil)))) (pv 10) (nomark _))))) (pss_one (ps_ret pe_bl)) pss_nil))))
      (Evl.pss_cut (ps_if (pt_cmpR op_ne (pe_callB (Gu.cr_repr fr hr.units) (by rfl) n_repr (by decide +kernel) (pa_cons (pe_useX C_unheard_pairs (hr.mono (by decide)) (fun σ => passAt L2.takes0 σ) rfl (pa_cons (pe_use C__law_pick (hr.mono (by decide)) rfl (pa_cons (pv 1) (pa_cons (pe_lst (pa_cons (pe_callTy call_list_of (by rfl) n_list (by decide +kernel) (pa_cons (pv 3) pa_nil)) (pa_cons (pe_callTy call_tuple_of (by rfl) n_tuple (by decide +kernel) (pa_cons (pv 3) pa_nil)) pa_nil))) pa_nil))) (pa_cons (pv 5) (pa_cons (pv 8) pa_nil)))) pa_nil)) (pe_callB (Gu.cr_repr fr hr.units) (by rfl) n_repr (by decide +kernel) (pa_cons (pe_use C__law_left (hr.mono (by decide)) rfl (pa_cons (pv 3) (pa_cons (pv 5) (pa_cons (pv 8) pa_nil)))) pa_nil)) (nomark _)) (pss_one (ps_ret pe_bl)) pss_nil)
      (Evl.pss_cut (ps_set (i := 11) sc_law.nd rfl (Or.inl rfl) (pe_use C__law_pick (hr.mono (by decide)) rfl (pa_cons (pv 1) (pa_cons (pv 6) pa_nil))))
      (pss_one (ps_for PassesOwn.never rfl (pi_seq (pe_tup (pa_cons (pe_tup (pa_cons (pv 8) (pa_cons (pv 11) pa_nil))) (pa_cons (pe_tup (pa_cons (pv 11) (pa_cons (pv 8) pa_nil))) (pa_cons (pe_tup (pa_cons (pv 8) (pa_cons (pv 8) pa_nil))) pa_nil))))) (pg_tup rfl (pgs_cons (pg_name (i := 12) sc_law.nd rfl (Or.inl rfl)) (pgs_cons (pg_name (i := 13) sc_law.nd rfl (Or.inl rfl)) pgs_nil)))
        (Evl.pss_cut (ps_set (i := 14) sc_law.nd rfl (Or.inl rfl) (pe_callB (Gu.cr_repr fr hr.units) (by rfl) n_repr (by decide +kernel) (pa_cons (pe_use C__law_coarser (hr.mono (by decide)) rfl (pa_cons (pv 12) (pa_cons (pv 13) pa_nil))) pa_nil)))
      (pss_one (ps_if (PW.pt (pw_or (pt_cmpR op_ne (pe_callB (Gu.cr_repr fr hr.units) (by rfl) n_repr (by decide +kernel) (pa_cons (pe_use C_is_coarser (hr.mono (by decide)) rfl (pa_cons (pv 12) (pa_cons (pv 13) pa_nil))) pa_nil)) (pv 14) (nomark _)) (pw_or1 (pt_cmpR op_ne (pe_callB (Gu.cr_repr fr hr.units) (by rfl) n_repr (by decide +kernel) (pa_cons (pe_useK0 K_is_coarser (hr.mono (by decide)) rfl (pk_cons (pv 13) (pk_cons (pv 12) pk_nil))) pa_nil)) (pv 14) (nomark _))))) (pss_one (ps_ret pe_bl)) pss_nil)))))))))
      (Evl.pss_cut (ps_set (i := 15) sc_law.nd rfl (Or.inr rfl) (pe_lc (own := [("naming", 8)]) (g := gName 8) rfl sc_law.nd (pi_seq (pv 6)) (blkOk_by (N := ["script", "box", "names", "tales", "turn", "bells", "all_told", "drawn", "naming", "tale", "heard", "other", "first", "second", "word", "deaf", "good", "due", "many", "left", "name", "one", "more"]) (sc := defScope s_law) (by decide +kernel)) (fun _ _ _ _ _ => pg_name (i := 8) sc_law.nd rfl (Or.inl rfl)) (fun _ _ _ _ _ => pts_one (pt_cmpR (r := rNeD K) (op_neD hr.units) (pe_use C__law_left (hr.mono (by decide)) rfl (pa_cons (pv 3) (pa_cons (pv 5) (pa_cons (pv 8) pa_nil)))) (pe_tup pa_nil) (nomark _))) (fun _ _ _ _ _ => pv 8)))
      (Evl.pss_cut (ps_set (i := 16) sc_law.nd rfl (Or.inr rfl) (pe_lc (own := [("naming", 8)]) (g := gName 8) rfl sc_law.nd (pi_seq (pv 6)) (blkOk_by (N := ["script", "box", "names", "tales", "turn", "bells", "all_told", "drawn", "naming", "tale", "heard", "other", "first", "second", "word", "deaf", "good", "due", "many", "left", "name", "one", "more"]) (sc := defScope s_law) (by decide +kernel)) (fun _ _ _ _ _ => pg_name (i := 8) sc_law.nd rfl (Or.inl rfl)) (fun _ _ _ _ _ => pts_one (pt_cmpR (r := rNotInD K) (op_notInD (units65 hr)) (pv 8) (pv 15) rfl)) (fun _ _ _ _ _ => pv 8)))
      (Evl.pss_cut (ps_setLc (i := 17) (own := [("one", 21)]) (g := gName 21) (by rfl) sc_law.nd rfl rfl (sw_true rfl rfl rfl (by decide +kernel)) (pi_seq (pv 16)) (blkOk_by (N := ["script", "box", "names", "tales", "turn", "bells", "all_told", "drawn", "naming", "tale", "heard", "other", "first", "second", "word", "deaf", "good", "due", "many", "left", "name", "one", "more"]) (sc := defScope s_law) (by decide +kernel)) (fun _ _ _ _ _ => pg_name (i := 21) sc_law.nd rfl (Or.inr rfl)) (fun _ _ _ _ _ => pts_one (pt_cmpR (r := rEqD K) (op_eqD hr.units) (pe_lc (own := [("more", 22)]) (g := gName 22) rfl sc_law.nd (pi_seqK (K := K) rfl (pv 16)) (blkOk_by (N := ["script", "box", "names", "tales", "turn", "bells", "all_told", "drawn", "naming", "tale", "heard", "other", "first", "second", "word", "deaf", "good", "due", "many", "left", "name", "one", "more"]) (sc := { kind := .function, names := [((".0" : Str), .local), (("one" : Str), .cell), (("good" : Str), .cell)], isGenerator := false, isCoroutine := false }) (by decide +kernel)) (fun _ _ _ _ _ => pg_name (i := 22) sc_law.nd rfl (Or.inl rfl)) (fun _ _ _ _ _ => pts_one (PW.pt (pw_and (pt_cmpR (r := rNeD K) (op_neD hr.units) (pv 22) (pv 21) (nomark _)) (pw_and1 (pt_val (pe_use C__law_coarser (hr.mono (by decide)) rfl (pa_cons (pv 22) (pa_cons (pv 21) pa_nil)))))))) (fun _ _ _ _ _ => pv 22)) (pe_lst pa_nil) (nomark _))) (fun _ _ _ _ _ => pv 21))
      (Evl.pss_cut (ps_if (PW.pt (pw_or (pt_cmpR op_ne (pe_callB (Gu.cr_repr fr hr.units) (by rfl) n_repr (by decide +kernel) (pa_cons (pe_useX C_coarsest_namings (hr.mono (by decide)) (fun σ => passAt L2.takes0 σ) rfl (pa_cons (pv 3) (pa_cons (pv 5) pa_nil))) pa_nil)) (pe_callB (Gu.cr_repr fr hr.units) (by rfl) n_repr (by decide +kernel) (pa_cons (pe_callTy call_tuple_of (by rfl) n_tuple (by decide +kernel) (pa_cons (pv 17) pa_nil)) pa_nil)) (nomark _)) (pw_or1 (pt_cmpR (op_neD hr.units) (pe_useKX K_coarsest_namings (hr.mono (by decide)) (passes_call L2.takes0 fun _ _ _ _ h => h) rfl (pk_cons (pv 5) (pk_cons (pe_callTy call_tuple_of (by rfl) n_tuple (by decide +kernel) (pa_cons (pv 3) pa_nil)) pk_nil))) (pe_callTy call_tuple_of (by rfl) n_tuple (by decide +kernel) (pa_cons (pv 17) pa_nil)) (nomark _))))) (pss_one (ps_ret pe_bl)) pss_nil)
      (Evl.pss_cut (ps_set (i := 18) sc_law.nd rfl (Or.inl rfl) (pe_callB (cr_min rfl) (by rfl) n_min (by decide +kernel) (pa_cons (pe_lc (own := [("naming", 8)]) (g := gName 8) rfl sc_law.nd (pi_seq (pv 16)) (blkOk_by (N := ["script", "box", "names", "tales", "turn", "bells", "all_told", "drawn", "naming", "tale", "heard", "other", "first", "second", "word", "deaf", "good", "due", "many", "left", "name", "one", "more"]) (sc := defScope s_law) (by decide +kernel)) (fun _ _ _ _ _ => pg_name (i := 8) sc_law.nd rfl (Or.inl rfl)) (fun _ _ _ _ _ => pts_nil) (fun _ _ _ _ _ => pe_callB (r := rMaxT K) (cr_maxT rfl hr.units) (by rfl) n_max (by decide +kernel) (pa_cons (pe_op (r := rCatA K) op_catA (pe_tup (pa_cons pe_int pa_nil)) (pv 8)) pa_nil))) pa_nil)))
      (Evl.pss_cut (ps_if (PW.pt (pw_or (pt_cmpR op_ne (pe_callB (Gu.cr_repr fr hr.units) (by rfl) n_repr (by decide +kernel) (pa_cons (pe_useX C_fewest_tones (hr.mono (by decide)) (fun σ => passAt L2.takes0 σ) rfl (pa_cons (pv 3) (pa_cons (pv 5) pa_nil))) pa_nil)) (pe_callB (Gu.cr_repr fr hr.units) (by rfl) n_repr (by decide +kernel) (pa_cons (pv 18) pa_nil)) (nomark _)) (pw_or1 (pt_cmpR op_ne (pe_useKX K_fewest_tones (hr.mono (by decide)) (passes_call L2.takes0 fun _ _ _ _ h => h) rfl (pk_cons (pv 5) (pk_cons (pe_callTy call_tuple_of (by rfl) n_tuple (by decide +kernel) (pa_cons (pv 3) pa_nil)) pk_nil))) (pv 18) (nomark _))))) (pss_one (ps_ret pe_bl)) pss_nil)
      (Evl.pss_cut (ps_set (i := 19) sc_law.nd rfl (Or.inl rfl) (pe_useKX K_unheard_pairs (hr.mono (by decide)) (passes_call L2.takes0 fun _ _ _ _ h => h) rfl (pk_cons (pv 7) (pk_cons (pv 5) (pk_cons (pv 3) pk_nil)))))
      (Evl.pss_cut (ps_if (PW.pt (pw_or (pt_cmpR (op_neD hr.units) (pv 19) (pe_useX C_unheard_pairs (hr.mono (by decide)) (fun σ => passAt L2.takes0 σ) rfl (pa_cons (pv 3) (pa_cons (pv 5) (pa_cons (pv 7) pa_nil)))) (nomark _)) (pw_or1 (pt_cmpR (op_neD hr.units) (pe_useKX K_finest_deaf (hr.mono (by decide)) (passes_call L2.takes0 fun _ _ _ _ h => h) rfl (pk_cons (pv 5) (pk_cons (pv 3) pk_nil))) (pe_useX C_finest_deaf (hr.mono (by decide)) (fun σ => passAt L2.takes0 σ) rfl (pa_cons (pe_callTy call_tuple_of (by rfl) n_tuple (by decide +kernel) (pa_cons (pv 3) pa_nil)) (pa_cons (pv 5) pa_nil))) (nomark _))))) (pss_one (ps_ret pe_bl)) pss_nil)
      (Evl.pss_cut (ps_setLc (i := 17) (own := [("one", 21)]) (g := gName 21) (by rfl) sc_law.nd rfl rfl (sw_true rfl rfl rfl (by decide +kernel)) (pi_seq (pv 15)) (blkOk_by (N := ["script", "box", "names", "tales", "turn", "bells", "all_told", "drawn", "naming", "tale", "heard", "other", "first", "second", "word", "deaf", "good", "due", "many", "left", "name", "one", "more"]) (sc := defScope s_law) (by decide +kernel)) (fun _ _ _ _ _ => pg_name (i := 21) sc_law.nd rfl (Or.inr rfl)) (fun _ _ _ _ _ => pts_one (pt_cmpR (r := rEqD K) (op_eqD hr.units) (pe_lc (own := [("more", 22)]) (g := gName 22) rfl sc_law.nd (pi_seqK (K := K) rfl (pv 15)) (blkOk_by (N := ["script", "box", "names", "tales", "turn", "bells", "all_told", "drawn", "naming", "tale", "heard", "other", "first", "second", "word", "deaf", "good", "due", "many", "left", "name", "one", "more"]) (sc := { kind := .function, names := [((".0" : Str), .local), (("one" : Str), .cell), (("deaf" : Str), .cell)], isGenerator := false, isCoroutine := false }) (by decide +kernel)) (fun _ _ _ _ _ => pg_name (i := 22) sc_law.nd rfl (Or.inl rfl)) (fun _ _ _ _ _ => pts_one (PW.pt (pw_and (pt_cmpR (r := rNeD K) (op_neD hr.units) (pv 22) (pv 21) (nomark _)) (pw_and1 (pt_val (pe_use C__law_coarser (hr.mono (by decide)) rfl (pa_cons (pv 21) (pa_cons (pv 22) pa_nil)))))))) (fun _ _ _ _ _ => pv 22)) (pe_lst pa_nil) (nomark _))) (fun _ _ _ _ _ => pv 21))
      (Evl.pss_cut (ps_if (pt_cmpR op_ne (pe_callB (Gu.cr_repr fr hr.units) (by rfl) n_repr (by decide +kernel) (pa_cons (pe_useX C_finest_deaf (hr.mono (by decide)) (fun σ => passAt L2.takes0 σ) rfl (pa_cons (pe_callTy call_tuple_of (by rfl) n_tuple (by decide +kernel) (pa_cons (pv 3) pa_nil)) (pa_cons (pv 5) pa_nil))) pa_nil)) (pe_callB (Gu.cr_repr fr hr.units) (by rfl) n_repr (by decide +kernel) (pa_cons (pe_callTy call_tuple_of (by rfl) n_tuple (by decide +kernel) (pa_cons (pv 17) pa_nil)) pa_nil)) (nomark _)) (pss_one (ps_ret pe_bl)) pss_nil)
      (pss_one (ps_ret (pe_use C__law_refused_right (hr.mono (by decide)) rfl (pa_cons (pv 1) (pa_cons (pv 3) (pa_cons (pv 5) (pa_cons (pv 7) pa_nil)))))))))))))))))))))))))))), ?_⟩
    -- box
    refine ⟨fun σ H' => ∃ p, σ = [some (.ref a0), some (.ref p), none, none, none, none, none, none, none, none, none, none, none, none, none, none, none, none, none, none, none, none, none] ∧ H p = none ∧ Same H H' ∧ BoxAt H' p, ?_, ?_⟩
    · exact ⟨_, rfl, a0, nsI, 0, rfl, ⟨by omega, by omega⟩, h0, l0, fun p H1 hp s1 b1 => ⟨p, rfl, hp, s1, b1⟩⟩
    rintro σ H1 ⟨p, rfl, hp, s1, b1⟩
    have eP1 := s1 _ _ ePt
    have pp : Pt ≠ p := ne_of_none ePt hp
    clear s1 h0 ePt hp
    -- names
    refine ⟨fun σ H' => ∃ l nsm, σ = [some (.ref a0), some (.ref p), some (.ref l), none, none, none, none, none, none, none, none, none, none, none, none, none, none, none, none, none, none, none, none] ∧ l ≠ p ∧ H' Pt = some (.tbl #[]) ∧ BoxAt H' p ∧ H' l = some (.lst (nsm.map V.str)) ∧ NsOk nsm ∧ (∀ x ∈ nsm, x.length ≠ 7), ?_, ?_⟩
    · refine ⟨_, rfl, _, rfl, p, 4, rfl, ⟨by decide, by decide⟩, b1, fun d H2 d0 d1 k2 b2 => ⟨_, _, rfl, rfl, p, 1 + d, rfl, ⟨by omega, by omega⟩, b2, fun l nsm H3 lp k3 b3 el nok n7 => ?_⟩⟩
      exact ⟨l, nsm, rfl, lp, k3 _ _ (k2 _ _ eP1 pp) pp, b3, el, nok, n7⟩
    rintro σ H3 ⟨l, nsm, rfl, lp, eP3, b3, el, nok, n7⟩
    -- tales
    refine ⟨fun σ H' => ∃ tl ts, σ = [some (.ref a0), some (.ref p), some (.ref l), some (.ref tl), none, none, none, none, none, none, none, none, none, none, none, none, none, none, none, none, none, none, none] ∧ WD Pt p l tl nsm ts H' ∧ TsB nsm 5 ts ∧ ts.length = 1, ?_, ?_⟩
    · refine ⟨_, rfl, _, rfl, p, l, nsm, rfl, b3, el, lp, nok, fun oa t H4 k4 b4 ht ti tn => ⟨by show 1 ≤ sizeLine; decide, fun tl ktl => ?_⟩⟩
      have s5 := same_new ktl (.lst [V.ref oa])
      have el4 := k4 _ _ el lp
      refine ⟨tl, [t], rfl, ⟨b4.same s5, s5 _ _ (k4 _ _ eP3 pp), pp, s5 _ _ el4, lp, ne_of_none el4 ktl, b4.ne ktl, [V.ref oa], upd_same, .cons (ht.same s5) .nil⟩, fun t' m => ?_, rfl⟩
      rw [List.mem_singleton.mp m]
      exact ⟨ti, tn⟩
    clear el b3 eP3
    rintro σ H4 ⟨tl, ts, rfl, w4, ti, l1⟩
    -- more tales
    refine ⟨fun σ H' => ∃ o4 ts, σ = [some (.ref a0), some (.ref p), some (.ref l), some (.ref tl), o4, none, none, none, none, none, none, none, none, none, none, none, none, none, none, none, none, none, none] ∧ WD Pt p l tl nsm ts H' ∧ TsB nsm 15 ts ∧ 1 ≤ ts.length ∧ ts.length ≤ 3, ?_, ?_⟩
    · refine ⟨_, rfl, p, 3, rfl, ⟨by decide, by decide⟩, w4.hb, fun d H5 d0 d1 k5 b5 => ⟨d, rfl, by omega, by omega, ?_⟩⟩
      refine for_range (n := d.toNat) (fun j σ H' => ∃ o4 ts, σ = [some (.ref a0), some (.ref p), some (.ref l), some (.ref tl), o4, none, none, none, none, none, none, none, none, none, none, none, none, none, none, none, none, none, none] ∧ WD Pt p l tl nsm ts H' ∧ TsB nsm (5 + 3 * j) ts ∧ 1 ≤ ts.length ∧ ts.length ≤ 1 + j) ⟨_, ts, rfl, w4.kept k5 b5, ti, by omega, by omega⟩ ?_ (fun σ H' ⟨o4, ts, e, w, t, a, b⟩ => ⟨o4, ts, e, w, fun x hx => ⟨(t x hx).1, by have := (t x hx).2; omega⟩, a, by omega⟩)
      clear w4 ti l1
      rintro j σ H6 hj ⟨o4, ts, rfl, w6, ti, la, lb⟩
      obtain ⟨its, et, al⟩ := w6.et
      have li := al.len
      refine ⟨_, rfl, .inl ⟨rfl, its, SqL.of et⟩, _, rfl, _, rfl, _, rfl, p, tl, its, rfl, w6.hb, et, w6.tp, ⟨by omega, by omega⟩, fun v H7 mv k7 b7 => ?_⟩
      obtain ⟨m, em⟩ := List.mem_iff_getElem?.mp mv
      obtain ⟨t, emt, htv⟩ := al.get em
      have w7 := w6.kept k7 b7
      have htv7 := htv.on (w6.hb.kept k7)
      obtain ⟨it, lt⟩ := ti t (at_mem emt)
      refine ⟨_, rfl, p, l, v, nsm, t, rfl, b7, htv7, it, by omega, w7.el, w7.lp, nok, fun cp u H8 k8 b8 hu iu lu => ?_⟩
      have w8 := w7.kept k8 b8
      obtain ⟨its8, et8, al8⟩ := w8.et
      have li8 := al8.len
      refine ⟨tl, its8, _, rfl, rfl, et8, by rw [sizeLine_eq]; omega, _, ts ++ [u], rfl, ⟨b8.put w8.tp, ?_, w8.pp, ?_, w8.lp, w8.lt, w8.tp, its8 ++ [.ref cp], upd_same, ?_⟩, ?_, by rw [List.length_append]; omega, by rw [List.length_append]; show _ + 1 ≤ _; omega⟩
      · rw [upd_ne fun z => by have e := w8.ePt; rw [z, et8] at e; cases e]
        exact w8.ePt
      · rw [upd_ne w8.lt]; exact w8.el
      · have tk : TupK H8 (upd H8 tl (.lst (its8 ++ [.ref cp]))) := fun c xs e => by
          rw [upd_ne fun z => by rw [z, et8] at e; cases e]; exact e
        exact (al8.imp fun _ _ r => r.on tk).app (.cons (hu.on tk) .nil)
      · intro x hx
        rcases List.mem_append.mp hx with hx | hx
        · exact ⟨(ti x hx).1, by have := (ti x hx).2; omega⟩
        · rw [List.mem_singleton.mp hx]
          exact ⟨iu, by omega⟩
    clear w4 ti l1
    rintro σ H5 ⟨o4, ts, rfl, w5, ti, la, lb⟩
    -- bells, drawn
    let S5 : Option V → Option V → Option V → L2.St := fun o5 o6 o7 => [some (.ref a0), some (.ref p), some (.ref l), some (.ref tl), o4, o5, o6, o7, none, none, none, none, none, none, none, none, none, none, none, none, none, none, none]
    refine ⟨fun σ H' => ∃ (bl : Addr) (bs : List Str), σ = S5 (some (.ref bl)) none none ∧ WD Pt p l tl nsm ts H' ∧ H' bl = some (.lst (bs.map V.str)) ∧ bl ≠ p ∧ bs.Sublist nsm, ?_, ?_⟩
    · refine ⟨_, rfl, l, _, rfl, SqX.lst w5.el, fun J SS W z0 D hD => ?_⟩
      have Dp_ : D ≠ p := w5.hb.ne hD
      have Dl : l ≠ D := ne_of_none w5.el hD
      have lns := nok.ln
      refine lc_go W (fun j H' => KeptT p D H5 H' ∧ BoxAt H' p ∧ ∃ xs : List Str, H' D = some (.lst (xs.map V.str)) ∧ xs.Sublist (nsm.take j)) ⟨fun b o e _ m => by rw [upd_ne m]; exact e, w5.hb.put Dp_, [], upd_same, List.nil_sublist _⟩ (fun j H' m => W.keep (fun o e => by rw [w5.el] at e; cases e; exact m.1 _ _ w5.el w5.lp Dl) z0) ?_ ?_
      · rintro j y H6 ey ⟨k6, b6, xs, eD, sub⟩
        obtain ⟨nm, en, rfl⟩ := str_at ey
        refine ⟨rfl, _, rfl, p, 5, rfl, ⟨by decide, by decide⟩, b6, fun d' H7 _ _ k7 b7 => ?_⟩
        have eD7 := k7 _ _ eD Dp_
        have lx : xs.length ≤ 4 := Nat.le_trans sub.length_le (Nat.le_trans (List.length_take_le' ..) lns)
        refine ⟨_, _, rfl, rfl, _, rfl, iteD (fun c => ⟨_, rfl, _, eD7, by rw [List.length_map, sizeLine_eq]; omega, (k6.kept k7).put, b7.put Dp_, xs ++ [nm], by rw [upd_same, List.map_append]; rfl, sub_yes sub en⟩) fun c => ⟨k6.kept k7, b7, xs, eD7, sub_no sub⟩⟩
      · rintro H6 ⟨k6, b6, xs, eD, sub⟩
        have k56 : Kept p H5 H6 := fun b o e n => k6 b o e n (ne_of_none e hD)
        rw [List.length_map, List.take_length] at sub
        exact ⟨D, xs, rfl, w5.kept k56 b6, eD, Dp_, sub⟩
    clear w5
    rintro σ H6 ⟨bl, bs0, rfl, w6, eb0, bp, sb0⟩
    have lb0 : bs0.length ≤ 4 := Nat.le_trans sb0.length_le nok.ln
    -- bells without the first
    refine ⟨fun σ H' => ∃ (bl : Addr) (bs : List Str), σ = S5 (some (.ref bl)) none none ∧ WD Pt p l tl nsm ts H' ∧ H' bl = some (.lst (bs.map V.str)) ∧ bl ≠ p ∧ bs.Sublist nsm, ?_, ?_⟩
    · refine ⟨_, rfl, bl, _, rfl, .inl (SqL.of eb0), _, _, rfl, rfl, _, rfl, iteD (fun c => ?_) fun c => ⟨bl, bs0, rfl, w6, eb0, bp, sb0⟩⟩
      refine ⟨_, rfl, p, 4, rfl, ⟨by decide, by decide⟩, w6.hb, fun d H7 _ _ k7 b7 => ⟨_, _, rfl, rfl, _, rfl, iteD (fun _ => ?_) fun _ => ⟨bl, bs0, rfl, w6.kept k7 b7, k7 _ _ eb0 bp, bp, sb0⟩⟩⟩
      refine ⟨_, rfl, _, rfl, ?_⟩
      dsimp only [tNoPart]
      refine rd_slG (some 1) none rfl rfl (k7 _ _ eb0 bp) fun q1 H8 nq s8 e8 => ?_
      exact ⟨q1, bs0.drop 1, rfl, (w6.kept k7 b7).same s8, by rw [List.map_drop]; exact e8, b7.ne nq, (List.drop_sublist 1 bs0).trans sb0⟩
    clear w6 eb0 bp sb0 lb0
    rintro σ H7 ⟨bl, bs1, rfl, w7, eb1, bp, sb1⟩
    have lb1 : bs1.length ≤ 4 := Nat.le_trans sb1.length_le nok.ln
    -- bells with one that is unheard
    refine ⟨fun σ H' => ∃ (bl : Addr) (bs : List Str), σ = S5 (some (.ref bl)) none none ∧ WD Pt p l tl nsm ts H' ∧ H' bl = some (.lst (bs.map V.str)) ∧ (∀ x ∈ bs, IsNm x) ∧ bs.Pairwise sLt ∧ bs.length ≤ 4, ?_, ?_⟩
    · have asIs : ∀ H', Kept p H7 H' → BoxAt H' p → ∃ (bl' : Addr) (bs : List Str), S5 (some (.ref bl)) none none = S5 (some (.ref bl')) none none ∧ WD Pt p l tl nsm ts H' ∧ H' bl' = some (.lst (bs.map V.str)) ∧ (∀ x ∈ bs, IsNm x) ∧ bs.Pairwise sLt ∧ bs.length ≤ 4 := fun H' k b => ⟨bl, bs1, rfl, w7.kept k b, k _ _ eb1 bp, fun x hx => nok.nm x (sb1.subset hx), nok.asc.sublist sb1, lb1⟩
      refine ⟨_, rfl, bl, _, rfl, .inl (SqL.of eb1), _, _, rfl, rfl, _, rfl, iteD (fun c => ?_) fun c => asIs _ (Kept.refl _ _) w7.hb⟩
      refine ⟨_, rfl, p, 4, rfl, ⟨by decide, by decide⟩, w7.hb, fun d H8 _ _ k8 b8 => ⟨rfl, _, rfl, iteD (fun _ => ?_) fun _ => asIs _ k8 b8⟩⟩
      have c3 := c
      rw [List.length_map] at c3
      have nun : Str.ofString "unheard" ∉ bs1 := fun hx => n7 _ (sb1.subset hx) (by decide)
      have w8 := w7.kept k8 b8
      have eb8 := k8 _ _ eb1 bp
      refine ⟨_, rfl, by show 1 ≤ sizeLine; decide, fun t1 kt1 => ?_⟩
      have s9 := same_new kt1 (.lst [V.str (Str.ofString "unheard")])
      have e9 : upd H8 t1 (.lst [V.str (Str.ofString "unheard")]) t1 = some (.lst [V.str (Str.ofString "unheard")]) := upd_same
      generalize upd H8 t1 (.lst [V.str (Str.ofString "unheard")]) = H9 at s9 e9 ⊢
      refine rd_catG (s9 _ _ eb8) e9 (by rw [List.length_map]; show _ + 1 ≤ 1000; omega) fun q1 H10 _ s10 e10 => ?_
      rw [show bs1.map V.str ++ [V.str (Str.ofString "unheard")] = (bs1 ++ [Str.ofString "unheard"]).map V.str by rw [List.map_append]; rfl] at e10
      refine ⟨q1, bs1 ++ [Str.ofString "unheard"], rfl, SqL.of e10, by rw [List.length_append]; show _ + 1 < 64; omega, fun ys q2 pm so2 hq => ?_⟩
      have s11 := same_new hq (.lst (ys.map V.str))
      have nd1 : (bs1 ++ [Str.ofString "unheard"]).Nodup := List.nodup_append.mpr ⟨nok.nd.sublist sb1, by simp, fun a ha b hb e => nun (by rw [List.mem_singleton.mp hb] at e; rw [← e]; exact ha)⟩
      refine ⟨q2, ys, rfl, ((w8.same s9).same s10).same s11, upd_same, fun x hx => ?_, sorted_asc so2 (pm.nodup_iff.mpr nd1), by rw [pm.length_eq, List.length_append]; show _ + 1 ≤ 4; omega⟩
      rcases List.mem_append.mp (pm.mem_iff.mp hx) with h | h
      · exact nok.nm x (sb1.subset h)
      · rw [List.mem_singleton.mp h]
        exact ⟨by decide, by decide, by decide⟩
    clear w7 eb1 bp sb1 lb1
    rintro σ H8 ⟨bl, bs, rfl, w8, eb, bnm, bas, b4⟩
    -- bells told, all told
    refine ⟨fun σ H' => ∃ (bb ab : Addr), σ = S5 (some (.ref bb)) (some (.ref ab)) none ∧ WD Pt p l tl nsm ts H' ∧ H' bb = some (.tup (bs.map V.str)) ∧ ab ≠ p ∧ NamsH H' ab (namsP bs.length), ?_, ?_⟩
    · refine ⟨_, rfl, bl, _, rfl, .inl ⟨SqL.of eb, fun bb kbb => ?_⟩⟩
      have s9 := same_new kbb (.tup (bs.map V.str))
      have e9 : upd H8 bb (.tup (bs.map V.str)) bb = some (.tup (bs.map V.str)) := upd_same
      have w9 := w8.same s9
      generalize upd H8 bb (.tup (bs.map V.str)) = H9 at s9 e9 w9 ⊢
      refine ⟨_, rfl, bl, _, rfl, .inl (SqL.of (s9 _ _ eb)), bs.length, by rw [List.length_map]; rfl, b4, fun ab H10 s10 hn => ⟨by show 2 ≤ sizeLine; decide, fun tp ktp => ⟨tp, _, rfl, SqT.of upd_same, rfl, _, _, rfl, _, _, rfl, rfl, ?_⟩⟩⟩
      have s11 := same_new ktp (.tup [V.ref bb, .ref ab])
      have w11 := (w9.same s10).same s11
      have hn11 := hn.same s11
      exact ⟨bb, ab, rfl, w11, s11 _ _ (s10 _ _ e9), hn11.ne w11.hb, hn11⟩
    clear w8 eb
    rintro σ H9 ⟨bb, ab, rfl, w9, eb, abp, hn9⟩
    -- drawn
    refine ⟨fun σ H' => ∃ (db : Addr) (dn : Nam), σ = S5 (some (.ref bb)) (some (.ref ab)) (some (.ref db)) ∧ WD Pt p l tl nsm ts H' ∧ H' bb = some (.tup (bs.map V.str)) ∧ NamsH H' ab (namsP bs.length) ∧ H' db = some (.tup (dn.map V.int)) ∧ dn.length = bs.length ∧ (∀ x ∈ dn, 0 ≤ x ∧ x ≤ 10 ^ 20), ?_, ?_⟩
    · refine ⟨_, rfl, bb, _, rfl, SqX.tup eb, fun J SS W z0 D hD => ?_⟩
      have Dp_ : D ≠ p := w9.hb.ne hD
      have Db : bb ≠ D := ne_of_none eb hD
      refine lc_go W (fun j H' => KeptT p D H9 H' ∧ BoxAt H' p ∧ ∃ xs : Nam, H' D = some (.lst (xs.map V.int)) ∧ xs.length = j ∧ j ≤ bs.length ∧ ∀ x ∈ xs, 0 ≤ x ∧ x ≤ 10 ^ 20) ⟨fun b o e _ m => by rw [upd_ne m]; exact e, w9.hb.put Dp_, [], upd_same, rfl, Nat.zero_le _, fun _ h => by cases h⟩ (fun j H' m => W.keep (fun o e => by rw [eb] at e; cases e; exact m.1 _ _ eb (w9.hb.ne_tup eb) Db) z0) ?_ ?_
      · rintro j y H10 ey ⟨k10, b10, xs, eD, lx, lj, px⟩
        obtain ⟨nm, en, rfl⟩ := str_at ey
        refine ⟨rfl, ?_⟩
        let L : List V := [V.int 0, .int 1, .int 2, .int 3, .int 7, .int ((10 : Int) ^ (20 : Int).toNat)]
        refine ⟨_, rfl, _, _, rfl, rfl, ⟨by decide, by decide, by decide⟩, by show 6 ≤ sizeLine; decide, fun la kla => ?_⟩
        have s11 := same_new kla (.lst L)
        have e11 : upd H10 la (.lst L) la = some (.lst L) := upd_same
        have b11 := b10.same s11
        have lap := b10.ne kla
        generalize upd H10 la (.lst L) = H11 at s11 e11 b11 ⊢
        refine ⟨p, la, L, rfl, b11, e11, lap, ⟨by decide, by decide⟩, fun x H12 mx k12 b12 => ?_⟩
        obtain ⟨v, rfl, v0⟩ : ∃ v : Int, x = .int v ∧ 0 ≤ v ∧ v ≤ 10 ^ 20 := by
          have mx : x ∈ [V.int 0, .int 1, .int 2, .int 3, .int 7, .int ((10 : Int) ^ (20 : Int).toNat)] := mx
          simp only [List.mem_cons, List.not_mem_nil, or_false] at mx
          rcases mx with rfl | rfl | rfl | rfl | rfl | rfl <;> exact ⟨_, rfl, by decide, by decide⟩
        have eD12 := k12 _ _ (s11 _ _ eD) Dp_
        have hj := (List.getElem?_eq_some_iff.mp en).1
        exact ⟨_, eD12, by rw [List.length_map, sizeLine_eq]; omega, ((k10.kept (Same.kept s11)).kept k12).put, b12.put Dp_, xs ++ [v], by rw [upd_same, List.map_append]; rfl, by rw [List.length_append, lx]; rfl, hj, fun y hy => by
          rcases List.mem_append.mp hy with h | h
          · exact px y h
          · rw [List.mem_singleton.mp h]; exact v0⟩
      · rintro H10 ⟨k10, b10, xs, eD, lx, lj, px⟩
        have k9 : Kept p H9 H10 := fun b o e n => k10 b o e n (ne_of_none e hD)
        rw [List.length_map] at lx
        refine ⟨D, _, rfl, .inl ⟨SqL.of eD, fun db kdb => ?_⟩⟩
        have s11 := same_new kdb (.tup (xs.map V.int))
        have w11 := (w9.kept k9 b10).same s11
        exact ⟨db, xs, rfl, w11, s11 _ _ (k9 _ _ eb (w9.hb.ne_tup eb)), (hn9.kept k9 w9.hb abp).same s11, upd_same, lx, px⟩
    clear w9 eb hn9 abp
    rintro σ H10 ⟨db, dn, rfl, w10, eb, hn, ed, ld, pd⟩
    have w11 : WN Pt p l tl bb ab db nsm ts bs dn H10 := ⟨w10, eb, hn, ed⟩
    clear w10 eb hn ed
    have B : Bs bs := ⟨bnm, bas, b4⟩
    have okD : NmOk bs.length dn := ⟨ld, pd⟩
    clear ld pd
    let S8 : Option V → Option V → Option V → Option V → Option V → Option V → Option V → L2.St := fun o8 o9 o10 o11 o12 o13 o14 => [some (.ref a0), some (.ref p), some (.ref l), some (.ref tl), o4, some (.ref bb), some (.ref ab), some (.ref db), o8, o9, o10, o11, o12, o13, o14, none, none, none, none, none, none, none, none]
    have ld100 : dn.length ≤ 100 := by rw [okD.ln]; omega
    have rpD := plain_rp ld100
    -- plain
    refine ⟨fun σ H' => σ = S8 none none none none none none none ∧ WN Pt p l tl bb ab db nsm ts bs dn H', ?_, ?_⟩
    · refine ⟨_, rfl, .ref db, dn, rfl, ⟨db, rfl, w11.ed⟩, ld100, fun r1 H12 s12 h1 => ?_⟩
      have w12 := w11.same s12
      refine ⟨_, _, rfl, h1.dp, rpD.sh, rpD.nd, rpD.dp, rpD.ln, ?_⟩
      refine ⟨_, rfl, .ref db, dn, rfl, ⟨db, rfl, w12.ed⟩, ld100, fun r2 H13 s13 h2 => ?_⟩
      have w13 := w12.same s13
      refine ⟨_, _, rfl, h2.dp, rpD.sh, rpD.nd, rpD.dp, rpD.ln, rfl, _, rfl, ?_⟩
      rw [decide_eq_true rfl]
      refine iteF ?_
      refine ⟨_, rfl, rfl, rfl, .ref db, dn, rfl, ⟨db, rfl, w13.ed⟩, ld100, fun r3 H14 s14 h3 => ?_⟩
      have w14 := w13.same s14
      refine ⟨_, rfl, .ref db, dn, rfl, ⟨db, rfl, w14.ed⟩, ld100, fun r4 H15 s15 h4 => ?_⟩
      refine rd_neN (h3.on (.same s15)) h4 ⟨_, rfl, ?_⟩
      rw [decide_eq_true rfl]
      exact iteF ⟨rfl, w14.same s15⟩
    clear w11
    rintro σ H11 ⟨rfl, w11⟩
    have okT := ti.ok (by decide) nok
    have l30 : ts.length ≤ 30 := by omega
    have l4T : ts.length ≤ 4 := by omega
    have bnl := B.nl
    let SL : L2.St → Prop := fun σ => ∃ o8 o9 o10 o11 o12 o13 o14, σ = S8 o8 o9 o10 o11 o12 o13 o14
    -- namings
    refine ⟨fun σ H' => SL σ ∧ WN Pt p l tl bb ab db nsm ts bs dn H', ?_, ?_⟩
    · obtain ⟨ans, ea, aal⟩ := w11.hn
      have l52 := nams_len bs.length b4
      have lan := aal.len
      refine ⟨_, rfl, _, rfl, _, rfl, p, ab, ans, rfl, w11.w.hb, ea, w11.hn.ne w11.w.hb, ⟨by rw [lan]; exact List.length_pos_of_mem (nams_own bs.length b4), by omega⟩, fun y0 H12 my k12 b12 => ?_⟩
      have w12 := w11.kept k12 b12
      obtain ⟨m0, em0⟩ := List.mem_iff_getElem?.mp my
      obtain ⟨n0, en0, hn0⟩ := aal.get em0
      have hn12 := hn0.on (w11.w.hb.kept k12)
      have ok0 := NmOk.of b4 (at_mem en0)
      clear aal ea my em0 hn0
      refine ⟨by show 2 ≤ sizeLine; decide, fun tp ktp => ⟨tp, _, rfl, SqX.tup upd_same, fun J SS W z0 => ?_⟩⟩
      have s13 := same_new ktp (.tup [V.ref db, y0])
      have e13 : upd H12 tp (.tup [V.ref db, y0]) tp = some (.tup [V.ref db, y0]) := upd_same
      have w13 := w12.same s13
      have hn13 := hn12.on (.same s13)
      generalize upd H12 tp (.tup [V.ref db, y0]) = H13 at s13 e13 w13 hn13 z0 ⊢
      refine for_sq W (fun j σ H' => SL σ ∧ WN Pt p l tl bb ab db nsm ts bs dn H' ∧ H' tp = some (.tup [V.ref db, y0]) ∧ LotN H' y0 n0) ⟨⟨_, _, _, _, _, _, _, rfl⟩, w13, e13, hn13⟩ (fun j σ H' pv => W.keep (fun o e => by rw [e13] at e; cases e; exact pv.2.2.1) z0) ?_ (fun σ H' pv => ⟨pv.1, pv.2.1⟩)
      clear w11 w12 w13 hn12 hn13 k12 b12
      rintro j σ H14 y ey ⟨⟨o8, o9, o10, o11, o12, o13, o14, rfl⟩, w14, e14, hn14⟩
      obtain ⟨n, hn, okn⟩ : ∃ n, LotN H14 y n ∧ NmOk bs.length n := by
        match j, ey with
        | 0, ey => cases ey; exact ⟨dn, ⟨db, rfl, w14.ed⟩, okD⟩
        | 1, ey => cases ey; exact ⟨n0, hn14, ok0⟩
      obtain ⟨nb, rfl, enb⟩ := hn
      let IV : Hp → Prop := fun H' => WN Pt p l tl bb ab db nsm ts bs dn H' ∧ H' tp = some (.tup [V.ref db, y0]) ∧ LotN H' y0 n0 ∧ H' nb = some (.tup (n.map V.int))
      have ivk : ∀ {H1 H2 : Hp}, IV H1 → Kept p H1 H2 → BoxAt H2 p → IV H2 := fun {H1 H2} v k b => ⟨v.1.kept k b, k _ _ v.2.1 (v.1.w.hb.ne_tup v.2.1), v.2.2.1.on (v.1.w.hb.kept k), k _ _ v.2.2.2 (v.1.w.hb.ne_tup v.2.2.2)⟩
      have ivs : ∀ {H1 H2 : Hp}, IV H1 → Same H1 H2 → IV H2 := fun {H1 H2} v s => ivk v (Same.kept s) (v.1.w.hb.same s)
      have v14 : IV H14 := ⟨w14, e14, hn14, enb⟩
      clear w14 e14 hn14 enb
      let Sn : Option V → Option V → Option V → Option V → Option V → Option V → L2.St := fun o9 o10 o11 o12 o13 o14 => S8 (some (.ref nb)) o9 o10 o11 o12 o13 o14
      have nd := B.nd
      have lln : bs.length = n.length := okn.ln.symm
      have ears : ∀ {H' : Hp}, IV H' → Ears K H' (.ref bb) (.ref nb) (lD bs) (iD n) bs n := fun v => B.ears v.1.eb ⟨nb, rfl, v.2.2.2⟩ okn
      have nmT := okn.namD
      -- heard
      refine ⟨fun σ H' => (∃ o9 o10, σ = Sn o9 o10 o11 o12 o13 o14) ∧ IV H', ?_, ?_⟩
      · obtain ⟨its, et, al⟩ := v14.1.w.et
        have tlp := v14.1.w.tp
        refine ⟨_, rfl, tl, its, rfl, SqX.lst et, fun J2 S2 W2 z2 => ?_⟩
        refine for_sq W2 (fun j σ H' => (∃ o9 o10, σ = Sn o9 o10 o11 o12 o13 o14) ∧ IV H' ∧ Same H14 H') ⟨⟨_, _, rfl⟩, v14, Same.refl _⟩ (fun j σ H' pv => W2.keep (fun o e => pv.2.2 _ _ e) z2) ?_ (fun σ H' pv => ⟨pv.1, pv.2.1⟩)
        rintro j2 σ H15 y2 ey2 ⟨⟨o9, o10, rfl⟩, v15, s15⟩
        obtain ⟨t, et2, ht0⟩ := al.get ey2
        have ht := ht0.same s15
        have mt := at_mem et2
        obtain ⟨okt, lt64⟩ := okT t mt
        have ltt := (ti t mt).2
        have tDt := tale_D nok (ti t mt).1
        have tsm := tale_sm nok (ti t mt).1 (show t.length ≤ 1000 by omega)
        have rpt := rp_ton (l := bs) okn (show t.length ≤ 60 by omega) lt64
        refine ⟨fun σ H' => ∃ r, σ = Sn (some y2) (some (.ref r)) o11 o12 o13 o14 ∧ IV H' ∧ Same H14 H' ∧ TalN H' (.ref r) (tonT (tone bs n) t), ?_, ?_⟩
        · exact ⟨_, rfl, _, rfl, _, rfl, y2, .ref bb, .ref nb, tD t, lD bs, iD n, t, bs, n, rfl, ht.dp, tsm, fun _ => ⟨ht, okt, lt64⟩, ears v15, fun _ _ _ r H16 s16 h16 => ⟨r, rfl, ivs v15 s16, s15.trans s16, h16⟩, fun c => (by rw [tDt] at c; cases c), fun _ c => (by rw [bnl] at c; cases c), fun _ _ c => (by rw [nmT] at c; cases c)⟩
        rintro σ H16 ⟨r, rfl, v16, s16, h16⟩
        have ht16 := ht0.same s16
        refine ⟨_, rfl, _, _, rfl, h16.dp, rpt.sh, rpt.nd, rpt.dp, rpt.ln, ?_⟩
        refine ⟨_, rfl, _, rfl, _, rfl, y2, bb, nb, t, bs, n, rfl, ht16, okt, v16.1.eb, v16.2.2.2, lln, nd, b4, fun r2 H17 s17 h17 => ?_⟩
        refine ⟨_, _, rfl, h17.dp, rpt.sh, rpt.nd, rpt.dp, rpt.ln, rfl, _, rfl, ?_⟩
        rw [decide_eq_true rfl]
        refine iteF ?_
        have v17 := ivs v16 s17
        refine ⟨_, rfl, _, rfl, _, rfl, rfl, rfl, y2, .ref bb, .ref nb, tD t, lD bs, iD n, t, bs, n, rfl, (ht16.same s17).dp, tsm, fun _ => ⟨ht16.same s17, okt, lt64⟩, ears v17, fun _ _ _ r3 H18 s18 h18 => ?_, fun c => (by rw [tDt] at c; cases c), fun _ c => (by rw [bnl] at c; cases c), fun _ _ c => (by rw [nmT] at c; cases c)⟩
        refine ⟨_, rfl, rd_neTn h18 ((h16.on (.same s17)).on (.same s18)) ⟨_, rfl, ?_⟩⟩
        rw [decide_eq_true rfl]
        exact iteF ⟨⟨_, _, rfl⟩, ivs v17 s18, (s16.trans s17).trans s18⟩
      clear v14
      rintro σ H15 ⟨⟨o9, o10, rfl⟩, v15⟩
      -- pairs left
      have rpU : RpOk (.tuple ((uaF ts bs n).map prD)) := rp_ua l4T
      refine ⟨fun σ H' => σ = Sn o9 o10 o11 o12 o13 o14 ∧ IV H', ?_, ?_⟩
      · obtain ⟨its, et, al⟩ := v15.1.w.et
        refine ⟨_, rfl, _, rfl, tl, its, rfl, .inl (SqL.of et), fun a1 k1 => ?_⟩
        have s1' := same_new k1 (.lst its)
        have e1 : upd H15 a1 (.lst its) a1 = some (.lst its) := upd_same
        have n1 : a1 ≠ p := v15.1.w.hb.ne k1
        generalize upd H15 a1 (.lst its) = G1 at s1' e1 ⊢
        refine ⟨_, rfl, tl, its, rfl, .inl ⟨SqL.of (s1' _ _ et), fun a2 k2 => ?_⟩⟩
        have s2' := same_new k2 (.tup its)
        have e2 : upd G1 a2 (.tup its) a2 = some (.tup its) := upd_same
        generalize upd G1 a2 (.tup its) = G2 at s2' e2 ⊢
        refine ⟨by show 2 ≤ sizeLine; decide, fun a3 k3 => ?_⟩
        have s3' := same_new k3 (.lst [V.ref a1, .ref a2])
        have e3 : upd G2 a3 (.lst [V.ref a1, .ref a2]) a3 = some (.lst [V.ref a1, .ref a2]) := upd_same
        have n3 : a3 ≠ p := (v15.1.w.hb.same (s1'.trans s2')).ne k3
        generalize upd G2 a3 (.lst [V.ref a1, .ref a2]) = G3 at s3' e3 ⊢
        have s63 := (s1'.trans s2').trans s3'
        have v3 := ivs v15 s63
        have al3 := al.imp fun _ _ r => r.same s63
        refine ⟨p, a3, _, rfl, v3.1.w.hb, e3, n3, ⟨by show 1 ≤ 2; decide, by show 2 ≤ 1000; decide⟩, fun v G4 mv k4 b4' => ?_⟩
        have v4 := ivk v3 k4 b4'
        have al4 := al3.imp fun _ _ r => r.on (v3.1.w.hb.kept k4)
        have n2 : a2 ≠ p := v3.1.w.hb.ne_tup (s3' _ _ e2)
        obtain ⟨g, rfl, hg⟩ : ∃ g, v = .ref g ∧ GivH G4 g its := by
          simp only [List.mem_cons, List.not_mem_nil, or_false] at mv
          rcases mv with rfl | rfl
          · exact ⟨a1, rfl, .inl (k4 _ _ ((s2'.trans s3') _ _ e1) n1)⟩
          · exact ⟨a2, rfl, .inr (k4 _ _ (s3' _ _ e2) n2)⟩
        obtain ⟨d, tls, told⟩ := ti.tls (K := K) (by decide) nok l30 hg al4
        refine ⟨_, rfl, _, rfl, .ref g, .ref bb, .ref nb, d, lD bs, iD n, ts, bs, n, rfl, tls, ears v4, fun _ _ _ r G5 s5 h5 => ?_, fun k hk => (by rw [told] at hk; cases hk), fun _ c => (by rw [bnl] at c; cases c), fun _ _ c => (by rw [nmT] at c; cases c)⟩
        refine ⟨_, _, rfl, h5.dp, rpU.sh, rpU.nd, rpU.dp, rpU.ln, ?_⟩
        have v5 := ivs v4 s5
        obtain ⟨its5, et5, al5⟩ := v5.1.w.et
        refine ⟨_, rfl, _, rfl, _, rfl, tl, bb, nb, its5, ts, bs, n, rfl, et5, al5, fun t mt => (okT t mt).1, l30, v5.1.eb, v5.2.2.2, lln, nd, b4, fun r2 G6 s6 h6 => ?_⟩
        refine ⟨_, _, rfl, h6.dp, rpU.sh, rpU.nd, rpU.dp, rpU.ln, rfl, _, rfl, ?_⟩
        rw [decide_eq_true rfl]
        exact iteF ⟨rfl, ivs v5 s6⟩
      clear v15
      rintro σ H16 ⟨rfl, v16⟩
      -- other
      refine ⟨fun σ H' => ∃ ob m, σ = Sn o9 o10 (some (.ref ob)) o12 o13 o14 ∧ IV H' ∧ H' ob = some (.tup (m.map V.int)) ∧ NmOk bs.length m, ?_, ?_⟩
      · obtain ⟨ans, ea, aal⟩ := v16.1.hn
        have l52 := nams_len bs.length b4
        have lan := aal.len
        refine ⟨_, rfl, _, rfl, p, ab, ans, rfl, v16.1.w.hb, ea, v16.1.hn.ne v16.1.w.hb, ⟨by rw [lan]; exact List.length_pos_of_mem (nams_own bs.length b4), by omega⟩, fun y1 H17 my k17 b17 => ?_⟩
        obtain ⟨m1, em1⟩ := List.mem_iff_getElem?.mp my
        obtain ⟨n1, en1, hn1⟩ := aal.get em1
        obtain ⟨ob, rfl, eob⟩ := hn1.on (v16.1.w.hb.kept k17)
        exact ⟨ob, n1, rfl, ivk v16 k17 b17, eob, NmOk.of b4 (at_mem en1)⟩
      clear v16
      rintro σ H17 ⟨ob, m, rfl, v17, eob, okm⟩
      -- coarser ones
      refine ⟨_, rfl, _, rfl, by show 2 ≤ sizeLine; decide, fun t1 kt1 => ?_⟩
      have s1 := same_new kt1 (.tup [V.ref nb, .ref ob])
      have e1 : upd H17 t1 (.tup [V.ref nb, .ref ob]) t1 = some (.tup [V.ref nb, .ref ob]) := upd_same
      generalize upd H17 t1 (.tup [V.ref nb, .ref ob]) = G1 at s1 e1 ⊢
      refine ⟨_, rfl, _, rfl, by show 2 ≤ sizeLine; decide, fun t2 kt2 => ?_⟩
      have s2 := same_new kt2 (.tup [V.ref ob, .ref nb])
      have e2 : upd G1 t2 (.tup [V.ref ob, .ref nb]) t2 = some (.tup [V.ref ob, .ref nb]) := upd_same
      generalize upd G1 t2 (.tup [V.ref ob, .ref nb]) = G2 at s2 e2 ⊢
      refine ⟨_, rfl, _, rfl, by show 2 ≤ sizeLine; decide, fun t3 kt3 => ?_⟩
      have s3 := same_new kt3 (.tup [V.ref nb, .ref nb])
      have e3 : upd G2 t3 (.tup [V.ref nb, .ref nb]) t3 = some (.tup [V.ref nb, .ref nb]) := upd_same
      generalize upd G2 t3 (.tup [V.ref nb, .ref nb]) = G3 at s3 e3 ⊢
      refine ⟨by show 3 ≤ sizeLine; decide, fun t4 kt4 => ⟨t4, _, rfl, SqX.tup upd_same, fun J3 S3 W3 z3 => ?_⟩⟩
      have s4 := same_new kt4 (.tup [V.ref t1, .ref t2, .ref t3])
      have e4 : upd G3 t4 (.tup [V.ref t1, .ref t2, .ref t3]) t4 = some (.tup [V.ref t1, .ref t2, .ref t3]) := upd_same
      generalize upd G3 t4 (.tup [V.ref t1, .ref t2, .ref t3]) = G4 at s4 e4 z3 ⊢
      have s14 := ((s1.trans s2).trans s3).trans s4
      have v4 := ivs v17 s14
      have f1 := ((s2.trans s3).trans s4) _ _ e1
      have f2 := (s3.trans s4) _ _ e2
      have f3 := s4 _ _ e3
      have fo := s14 _ _ eob
      clear s1 s2 s3 s4 e1 e2 e3 kt1 kt2 kt3 kt4 v17 s14 eob
      refine for_sq W3 (fun j σ H' => (∃ o12 o13 o14, σ = Sn o9 o10 (some (.ref ob)) o12 o13 o14) ∧ IV H' ∧ Same G4 H') ⟨⟨_, _, _, rfl⟩, v4, Same.refl _⟩ (fun j σ H' pv => W3.keep (fun o e => pv.2.2 _ _ e) z3) ?_ (fun σ H' ⟨⟨o12, o13, o14, e⟩, v, _⟩ => ⟨⟨_, _, _, _, _, _, _, e⟩, v.1, v.2.1, v.2.2.1⟩)
      rintro j3 σ H18 y3 ey3 ⟨⟨o12, o13, o14, rfl⟩, v18, s18⟩
      obtain ⟨t5, u, v, nu, nv, rfl, e5, eu, ev, oku, okv⟩ : ∃ t5 u v nu nv, y3 = .ref t5 ∧ H18 t5 = some (.tup [V.ref u, .ref v]) ∧ H18 u = some (.tup (nu.map V.int)) ∧ H18 v = some (.tup (nv.map V.int)) ∧ NmOk bs.length nu ∧ NmOk bs.length nv := by
        match j3, ey3 with
        | 0, ey => cases ey; exact ⟨t1, nb, ob, n, m, rfl, s18 _ _ f1, v18.2.2.2, s18 _ _ fo, okn, okm⟩
        | 1, ey => cases ey; exact ⟨t2, ob, nb, m, n, rfl, s18 _ _ f2, s18 _ _ fo, v18.2.2.2, okm, okn⟩
        | 2, ey => cases ey; exact ⟨t3, nb, nb, n, n, rfl, s18 _ _ f3, v18.2.2.2, v18.2.2.2, okn, okn⟩
      refine ⟨t5, [V.ref u, .ref v], rfl, SqT.of e5, rfl, _, _, rfl, _, _, rfl, rfl, ?_⟩
      have luv : nu.length = nv.length := by rw [oku.ln, okv.ln]
      have lu : nu.length ≤ 100 := by rw [oku.ln]; omega
      have rpB := rp_bool (coarN nu nv)
      have pv0 : ∀ x ∈ nv, 0 ≤ x := fun x hx => (okv.in_ x hx).1
      refine ⟨fun σ H' => σ = Sn o9 o10 (some (.ref ob)) (some (.ref u)) (some (.ref v)) (some (.str (PyData.shown (.bool (coarN nu nv))))) ∧ IV H' ∧ Same H18 H', ?_, ?_⟩
      · refine ⟨_, rfl, _, rfl, .ref u, .ref v, nu, nv, rfl, ⟨u, rfl, eu⟩, ⟨v, rfl, ev⟩, luv, lu, fun H19 s19 => ?_⟩
        exact ⟨_, _, rfl, .bl _, rpB.sh, rpB.nd, rpB.dp, rpB.ln, rfl, ivs v18 s19, s19⟩
      rintro σ H19 ⟨rfl, v19, s19⟩
      refine ⟨_, rfl, _, rfl, .ref u, .ref v, nu, nv, rfl, ⟨u, rfl, s19 _ _ eu⟩, ⟨v, rfl, s19 _ _ ev⟩, lu, pv0, fun H20 s20 => ?_⟩
      refine ⟨_, _, rfl, .bl _, rpB.sh, rpB.nd, rpB.dp, rpB.ln, _, rfl, rfl, _, rfl, ?_⟩
      rw [decide_eq_true rfl]
      refine iteF ?_
      have s1920 := s19.trans s20
      refine ⟨_, rfl, _, rfl, rfl, rfl, .ref u, .ref v, nu, nv, rfl, ⟨u, rfl, s1920 _ _ eu⟩, ⟨v, rfl, s1920 _ _ ev⟩, lu, pv0, fun H21 s21 => ?_⟩
      refine ⟨_, _, rfl, .bl _, rpB.sh, rpB.nd, rpB.dp, rpB.ln, _, rfl, rfl, _, rfl, ?_⟩
      rw [decide_eq_true rfl]
      exact iteF ⟨⟨_, _, _, rfl⟩, ivs (ivs v19 s20) s21, s18.trans (s1920.trans s21)⟩
    clear w11
    rintro σ H12 ⟨⟨o8, o9, o10, o11, o12, o13, o14, rfl⟩, w12⟩
    let S15 : Option V → Option V → Option V → Option V → Option V → L2.St := fun o15 o16 o17 o18 o19 => [some (.ref a0), some (.ref p), some (.ref l), some (.ref tl), o4, some (.ref bb), some (.ref ab), some (.ref db), o8, o9, o10, o11, o12, o13, o14, o15, o16, o17, o18, o19, none, none, none]
    have nd := B.nd
    have l52 := nams_len bs.length b4
    have ok1 : ∀ t ∈ ts, TlOk t := fun t mt => (okT t mt).1
    have at_ : ∀ {n}, n ∈ namsP bs.length → n.length = bs.length ∧ n.length ≤ 100 ∧ ∀ t ∈ n, 0 ≤ t := fun h => by
      obtain ⟨a, b, _⟩ := nams_at b4 h
      exact ⟨a, by omega, b⟩
    -- deaf
    refine ⟨fun σ H' => ∃ df, σ = S15 (some (.ref df)) none none none none ∧ WN Pt p l tl bb ab db nsm ts bs dn H' ∧ NamsH H' df (deafF ts bs), ?_, ?_⟩
    · obtain ⟨ans, ea, aal⟩ := w12.hn
      obtain ⟨its, et, al⟩ := w12.w.et
      refine ⟨_, rfl, ab, ans, rfl, SqX.lst ea, fun J S W z0 D0 hD => ?_⟩
      refine lc_mf (ds := namsP bs.length) W (fun n => !decide (uaF ts bs n = [])) LotN z0 hD aal.len (fun i y n H' ey en s m => ?_) (fun H13 ys s13 e13 al13 => ?_)
      · obtain ⟨n', en', nb, rfl, enb⟩ := aal.get ey
        obtain rfl : n' = n := Option.some.inj (en'.symm.trans en)
        refine ⟨rfl, _, rfl, _, rfl, _, rfl, tl, bb, nb, its, ts, bs, n', rfl, s _ _ et, al.imp fun _ _ r => r.same s, ok1, l30, s _ _ w12.eb, s _ _ enb, (at_ (at_mem en)).1.symm, nd, b4, fun q5 H14 s14 h14 => ?_⟩
        refine ⟨by show 0 ≤ sizeLine; decide, fun t0 kt0 => ?_⟩
        have s15 := same_new kt0 (.tup [])
        have h15 : TupPrs (upd H14 t0 (.tup [])) q5 (uaF ts bs n') := let ⟨jts, e, al⟩ := h14; ⟨jts, s15 _ _ e, al.imp fun _ _ r => r.on (.same s15)⟩
        refine rd_nePN h15 upd_same ⟨_, rfl, ?_⟩
        have s14' := s14.trans s15
        cases c : !decide (uaF ts bs n' = []) with
        | true => exact iteT ⟨_, rfl, mf_yes m hD (fun _ _ _ _ f h => h.on (.fix f)) en (by omega) s14' c ⟨nb, rfl, s14' _ _ (s _ _ enb)⟩⟩
        | false => exact iteF (mf_no m (fun _ _ _ _ f h => h.on (.fix f)) en s14' c)
      · exact ⟨D0, rfl, w12.same s13, ys, e13, al13⟩
    clear w12
    rintro σ H13 ⟨df, rfl, w13, hdf⟩
    -- good
    refine ⟨fun σ H' => ∃ gd, σ = S15 (some (.ref df)) (some (.ref gd)) none none none ∧ WN Pt p l tl bb ab db nsm ts bs dn H' ∧ NamsH H' df (deafF ts bs) ∧ NamsH H' gd (tellF ts bs), ?_, ?_⟩
    · obtain ⟨ans, ea, aal⟩ := w13.hn
      refine ⟨_, rfl, ab, ans, rfl, SqX.lst ea, fun J S W z0 D0 hD => ?_⟩
      refine lc_mf (ds := namsP bs.length) W (fun n => !decide (n ∈ deafF ts bs)) LotN z0 hD aal.len (fun i y n H' ey en s m => ?_) (fun H14 ys s14 e14 al14 => ?_)
      · obtain ⟨n', en', hn⟩ := aal.get ey
        obtain rfl : n' = n := Option.some.inj (en'.symm.trans en)
        have hn1 := hn.on (.same s)
        refine ⟨rfl, _, rfl, _, rfl, iD n', _, hn1.dp, (hdf.same s).dp, (sh_iD n').ok (by decide), (sh_nams _).ok (by decide), ?_⟩
        rw [any_nam]
        refine ⟨_, rfl, ?_⟩
        cases c : !decide (n' ∈ deafF ts bs) with
        | true => exact iteT ⟨_, rfl, mf_yes m hD (fun _ _ _ _ f h => h.on (.fix f)) en (by omega) (Same.refl _) c hn1⟩
        | false => exact iteF (mf_no m (fun _ _ _ _ f h => h.on (.fix f)) en (Same.refl _) c)
      · rw [good_eq] at al14
        exact ⟨D0, rfl, w13.same s14, hdf.same s14, ys, e14, al14⟩
    clear w13 hdf
    rintro σ H14 ⟨gd, rfl, w14, hdf, hgd⟩
    have tT : ∀ {n}, n ∈ tellF ts bs → n ∈ namsP bs.length := fun h => (List.mem_filter.mp h).1
    have tD : ∀ {n}, n ∈ deafF ts bs → n ∈ namsP bs.length := fun h => (List.mem_filter.mp h).1
    have lT : (tellF ts bs).length ≤ 52 := Nat.le_trans (List.length_filter_le _ _) l52
    have lD_ : (deafF ts bs).length ≤ 52 := Nat.le_trans (List.length_filter_le _ _) l52
    -- due
    refine ⟨fun σ H' => ∃ du, σ = S15 (some (.ref df)) (some (.ref gd)) (some (.ref du)) none none ∧ WN Pt p l tl bb ab db nsm ts bs dn H' ∧ NamsH H' df (deafF ts bs) ∧ NamsH H' gd (tellF ts bs) ∧ NamsH H' du (coF ts bs), ?_, ?_⟩
    · obtain ⟨its, en, al⟩ := id hgd
      refine ⟨_, rfl, gd, its, rfl, SqX.lst en, fun J S W z0 D0 hD => ?_⟩
      refine lc_mf (ds := tellF ts bs) W (fun n => !((tellF ts bs).any fun m => !decide (m = n) && coarN m n)) LotN z0 hD al.len (fun i y n H' ey en1 s m => ?_) (fun H15 ys s15 e15 al15 => ?_)
      · obtain ⟨n', en', hn⟩ := al.get ey
        obtain rfl : n' = n := Option.some.inj (en'.symm.trans en1)
        refine ⟨rfl, _, rfl, gd, its, rfl, SqX.lst (s _ _ en), fun J2 S2 W2 z2 D2 hD2 => ?_⟩
        refine lc_mf (ds := tellF ts bs) W2 (fun o => !decide (o = n') && coarN o n') LotN z2 hD2 al.len (fun j y2 o H4 ey2 eo s4 m4 => ?_) (fun H4 zs s4 e4 al4 => ?_)
        · obtain ⟨o', eo', ho⟩ := al.get ey2
          obtain rfl : o' = o := Option.some.inj (eo'.symm.trans eo)
          have s24 := s.trans s4
          have ho4 := ho.on (.same s24)
          have hn4 := hn.on (.same s24)
          refine ⟨rfl, _, rfl, _, rfl, rd_neN ho4 hn4 ⟨_, rfl, ?_⟩⟩
          by_cases c : o' = n'
          · rw [decide_eq_true c]
            exact iteF (mf_no m4 (fun _ _ _ _ f h => h.on (.fix f)) eo (Same.refl _) (by rw [decide_eq_true c]; rfl))
          · rw [decide_eq_false c]
            refine iteT ⟨_, rfl, _, rfl, y2, y, o', n', rfl, ho4, hn4, by rw [(at_ (tT (at_mem eo))).1, (at_ (tT (at_mem en1))).1], (at_ (tT (at_mem eo))).2.1, fun H5 s5 => ⟨_, rfl, ?_⟩⟩
            cases c2 : coarN o' n' with
            | true => exact iteT ⟨_, rfl, mf_yes m4 hD2 (fun _ _ _ _ f h => h.on (.fix f)) eo (by omega) s5 (by rw [decide_eq_false c, c2]; rfl) (ho4.on (.same s5))⟩
            | false => exact iteF (mf_no m4 (fun _ _ _ _ f h => h.on (.fix f)) eo s5 (by rw [c2, Bool.and_false]))
        · refine ⟨by show 0 ≤ sizeLine; decide, fun t0 kt0 => ?_⟩
          have s5 := same_new kt0 (.lst [])
          have h5 : NamsH (upd H4 t0 (.lst [])) D2 ((tellF ts bs).filter fun o => !decide (o = n') && coarN o n') := ⟨zs, s5 _ _ e4, al4.imp fun _ _ r => r.on (.same s5)⟩
          refine rd_eqNN h5 upd_same ⟨_, rfl, ?_⟩
          rw [no_any]
          have s45 := s4.trans s5
          cases c : !((tellF ts bs).any fun m => !decide (m = n') && coarN m n') with
          | true => exact iteT ⟨_, rfl, mf_yes m hD (fun _ _ _ _ f h => h.on (.fix f)) en1 (by omega) s45 c ((hn.on (.same s)).on (.same s45))⟩
          | false => exact iteF (mf_no m (fun _ _ _ _ f h => h.on (.fix f)) en1 s45 c)
      · exact ⟨D0, rfl, w14.same s15, hdf.same s15, hgd.same s15, ys, e15, al15⟩
    clear w14 hdf hgd
    rintro σ H15 ⟨du, rfl, w15, hdf, hgd, hdu⟩
    have rpC : RpOk (tnD (coF ts bs)) := rp_nams b4 (List.filter_sublist.trans List.filter_sublist)
    have rpF : RpOk (tnD (fiF ts bs)) := rp_nams b4 (List.filter_sublist.trans List.filter_sublist)
    have tls_ : ∀ {H' : Hp}, WN Pt p l tl bb ab db nsm ts bs dn H' → ∃ d, Tls K H' (.ref tl) d ts ∧ toldE d = none := fun w => let ⟨its, et, al⟩ := w.w.et; ti.tls (K := K) (by decide) nok l30 (.inl et) al
    -- tuple(tales)
    have tup_ : ∀ {H' : Hp}, WN Pt p l tl bb ab db nsm ts bs dn H' → ∃ its, H' tl = some (.lst its) ∧ ∀ q H2, Same H' H2 → H2 q = some (.tup its) → ∃ d, Tls K H2 (.ref q) d ts ∧ toldE d = none := fun w => let ⟨its, et, al⟩ := w.w.et; ⟨its, et, fun q H2 s e => ti.tls (K := K) (by decide) nok l30 (.inr e) (al.imp fun _ _ r => r.same s)⟩
    -- coarsest
    let I3 : Addr → Hp → Prop := fun du H' => WN Pt p l tl bb ab db nsm ts bs dn H' ∧ NamsH H' df (deafF ts bs) ∧ NamsH H' gd (tellF ts bs)
    refine ⟨fun σ H' => σ = S15 (some (.ref df)) (some (.ref gd)) (some (.ref du)) none none ∧ WN Pt p l tl bb ab db nsm ts bs dn H' ∧ NamsH H' df (deafF ts bs) ∧ NamsH H' gd (tellF ts bs), ?_, ?_⟩
    · obtain ⟨d, tls, told⟩ := tls_ w15
      refine ⟨_, rfl, _, rfl, .ref tl, .ref bb, d, lD bs, ts, bs, rfl, tls, B.bel w15.eb, fun _ _ r H16 s16 h16 => ?_, fun k hk => (by rw [told] at hk; cases hk), fun _ c => (by rw [bnl] at c; cases c)⟩
      refine ⟨_, _, rfl, h16.dp, rpC.sh, rpC.nd, rpC.dp, rpC.ln, ?_⟩
      obtain ⟨its, ed, ald⟩ := hdu.same s16
      refine ⟨_, rfl, du, its, rfl, .inl ⟨SqL.of ed, fun q1 kq1 => ?_⟩⟩
      have s17 := same_new kq1 (.tup its)
      have h17 : NamsT (upd H16 q1 (.tup its)) (.ref q1) (coF ts bs) := ⟨q1, its, rfl, upd_same, ald.imp fun _ _ r => r.on (.same s17)⟩
      have ed := s17 _ _ ed
      have w17 := (w15.same s16).same s17
      have hdf := (hdf.same s16).same s17
      have hgd := (hgd.same s16).same s17
      have ald := ald.imp fun _ _ (r : LotN _ _ _) => r.on (.same s17)
      generalize upd H16 q1 (.tup its) = H17 at s17 h17 ed w17 hdf hgd ald ⊢
      refine ⟨_, _, rfl, h17.dp, rpC.sh, rpC.nd, rpC.dp, rpC.ln, rfl, _, rfl, ?_⟩
      rw [decide_eq_true rfl]
      refine iteF ?_
      obtain ⟨jts, et, tu⟩ := tup_ w17
      refine ⟨_, rfl, _, rfl, tl, jts, rfl, .inl ⟨SqL.of et, fun q2 kq2 => ?_⟩⟩
      have s18 := same_new kq2 (.tup jts)
      obtain ⟨d2, tls2, told2⟩ := tu q2 _ s18 upd_same
      have w18 := w17.same s18
      have hdf := hdf.same s18
      have hgd := hgd.same s18
      have ed := s18 _ _ ed
      have ald := ald.imp fun _ _ (r : LotN _ _ _) => r.on (.same s18)
      generalize upd H17 q2 (.tup jts) = H18 at s18 tls2 w18 hdf hgd ed ald ⊢
      refine ⟨rfl, rfl, .ref q2, .ref bb, d2, lD bs, ts, bs, rfl, tls2, B.bel w18.eb, fun _ _ r2 H19 s19 h19 => ?_, fun k hk => (by rw [told2] at hk; cases hk), fun _ c => (by rw [bnl] at c; cases c)⟩
      refine ⟨_, rfl, du, its, rfl, .inl ⟨SqL.of (s19 _ _ ed), fun q3 kq3 => ?_⟩⟩
      have s20 := same_new kq3 (.tup its)
      have h20 : NamsT (upd H19 q3 (.tup its)) (.ref q3) (coF ts bs) := ⟨q3, its, rfl, upd_same, ald.imp fun _ _ r => r.on (.same (s19.trans s20))⟩
      refine rd_neTn (h19.on (.same s20)) h20 ⟨_, rfl, ?_⟩
      rw [decide_eq_true rfl]
      exact iteF ⟨rfl, (w18.same s19).same s20, (hdf.same s19).same s20, (hgd.same s19).same s20⟩
    clear w15 hdf hgd hdu
    rintro σ H16 ⟨rfl, w16, hdf, hgd⟩
    have ow := own_tell (fun t mt => (ok1 t mt).good) nd b4
    -- many
    refine ⟨fun σ H' => ∃ m, σ = S15 (some (.ref df)) (some (.ref gd)) (some (.ref du)) (some (.int m)) none ∧ WN Pt p l tl bb ab db nsm ts bs dn H' ∧ NamsH H' df (deafF ts bs) ∧ FewI (tellF ts bs) m, ?_, ?_⟩
    · obtain ⟨its, en, al⟩ := id hgd
      refine ⟨_, rfl, gd, its, rfl, SqX.lst en, fun J S W z0 D0 hD => ?_⟩
      refine lc_mf (ds := tellF ts bs) W (fun _ => true) (fun _ y n => y = .int (mxI n)) z0 hD al.len (fun i y n H' ey en1 s m => ?_) (fun H17 ys s17 e17 al17 => ?_)
      · obtain ⟨n', en', nb, rfl, enb⟩ := al.get ey
        obtain rfl : n' = n := Option.some.inj (en'.symm.trans en1)
        have hn0 := (at_ (tT (at_mem en1))).2.2
        have hn1 := (at_ (tT (at_mem en1))).2.1
        refine ⟨rfl, by show 1 ≤ sizeLine; decide, fun t1 kt1 => ?_⟩
        have s2 := same_new kt1 (.tup [V.int 0])
        have e2 : upd H' t1 (.tup [V.int 0]) t1 = some (.tup [V.int 0]) := upd_same
        generalize upd H' t1 (.tup [V.int 0]) = G2 at s2 e2 ⊢
        refine ⟨_, rfl, rd_catT e2 (s2 _ _ (s _ _ enb)) (by rw [List.length_map]; show 1 + _ ≤ 1000; omega) fun q1 G3 s3 e3 => ?_⟩
        refine ⟨q1, 0, n', rfl, SqT.of e3, fun k hk hle => ?_⟩
        obtain rfl := mx_zero hn0 hk hle
        exact mf_yes m hD (fun _ _ _ _ _ h => h) en1 (by omega) (s2.trans s3) rfl rfl
      · rw [Rd.filter_all] at al17
        have ez := al17.map_eq (f := fun n => V.int (mxI n)) fun _ _ h => h
        rw [show ((tellF ts bs).map fun n => V.int (mxI n)) = ((tellF ts bs).map mxI).map V.int by rw [List.map_map]; rfl] at ez
        rw [ez] at e17
        refine ⟨D0, _, rfl, SqL.of e17, by rw [List.length_map]; exact List.length_pos_of_mem ow, fun m hm hle => ?_⟩
        obtain ⟨n, hn, e⟩ := List.mem_map.mp hm
        exact ⟨m, rfl, w16.same s17, hdf.same s17, ⟨n, hn, e⟩, fun k hk => hle _ (List.mem_map.mpr ⟨k, hk, rfl⟩)⟩
    clear w16 hdf hgd
    rintro σ H17 ⟨m, rfl, w17, hdf, fm⟩
    have rpM := few_rp b4 fm
    -- fewest
    refine ⟨fun σ H' => σ = S15 (some (.ref df)) (some (.ref gd)) (some (.ref du)) (some (.int m)) none ∧ WN Pt p l tl bb ab db nsm ts bs dn H' ∧ NamsH H' df (deafF ts bs), ?_, ?_⟩
    · obtain ⟨d, tls, told⟩ := tls_ w17
      refine ⟨_, rfl, _, rfl, .ref tl, .ref bb, d, lD bs, ts, bs, rfl, tls, B.bel w17.eb, fun _ _ m1 H18 s18 f1 => ?_, fun k hk => (by rw [told] at hk; cases hk), fun _ c => (by rw [bnl] at c; cases c)⟩
      obtain rfl := few_one f1 fm
      refine ⟨_, _, rfl, .int _, rpM.sh, rpM.nd, rpM.dp, rpM.ln, ?_⟩
      refine ⟨_, rfl, _, _, rfl, .int _, rpM.sh, rpM.nd, rpM.dp, rpM.ln, rfl, _, rfl, ?_⟩
      rw [decide_eq_true rfl]
      refine iteF ?_
      have w18 := w17.same s18
      obtain ⟨jts, et, tu⟩ := tup_ w18
      refine ⟨_, rfl, _, rfl, tl, jts, rfl, .inl ⟨SqL.of et, fun q2 kq2 => ?_⟩⟩
      have s19 := same_new kq2 (.tup jts)
      obtain ⟨d2, tls2, told2⟩ := tu q2 _ s19 upd_same
      have w19 := w18.same s19
      have hdf := (hdf.same s18).same s19
      generalize upd H18 q2 (.tup jts) = H19 at s19 tls2 w19 hdf ⊢
      refine ⟨rfl, rfl, .ref q2, .ref bb, d2, lD bs, ts, bs, rfl, tls2, B.bel w19.eb, fun _ _ m2 H20 s20 f2 => ?_, fun k hk => (by rw [told2] at hk; cases hk), fun _ c => (by rw [bnl] at c; cases c)⟩
      obtain rfl := few_one f2 fm
      refine ⟨_, rfl, rfl, _, rfl, ?_⟩
      rw [decide_eq_true rfl]
      exact iteF ⟨rfl, w19.same s20, hdf.same s20⟩
    clear w17 hdf
    rintro σ H18 ⟨rfl, w18, hdf⟩
    have earsD : ∀ {H' : Hp}, WN Pt p l tl bb ab db nsm ts bs dn H' → Ears K H' (.ref bb) (.ref db) (lD bs) (iD dn) bs dn := fun w => B.ears w.eb ⟨db, rfl, w.ed⟩ okD
    have nmD_ := okD.namD
    -- left
    refine ⟨fun σ H' => ∃ lf, σ = S15 (some (.ref df)) (some (.ref gd)) (some (.ref du)) (some (.int m)) (some (.ref lf)) ∧ WN Pt p l tl bb ab db nsm ts bs dn H' ∧ NamsH H' df (deafF ts bs) ∧ TupPrs H' lf (uaF ts bs dn), ?_, ?_⟩
    · obtain ⟨d, tls, told⟩ := tls_ w18
      exact ⟨_, rfl, _, rfl, _, rfl, rfl, rfl, .ref tl, .ref bb, .ref db, d, lD bs, iD dn, ts, bs, dn, rfl, tls, earsD w18, fun _ _ _ r H19 s19 h19 => ⟨r, rfl, w18.same s19, hdf.same s19, h19⟩, fun k hk => (by rw [told] at hk; cases hk), fun _ c => (by rw [bnl] at c; cases c), fun _ _ c => (by rw [nmD_] at c; cases c)⟩
    clear w18 hdf
    rintro σ H19 ⟨lf, rfl, w19, hdf, hlf⟩
    let S19 : L2.St := S15 (some (.ref df)) (some (.ref gd)) (some (.ref du)) (some (.int m)) (some (.ref lf))
    refine ⟨fun σ H' => σ = S19 ∧ WN Pt p l tl bb ab db nsm ts bs dn H' ∧ NamsH H' df (deafF ts bs), ?_, ?_⟩
    · obtain ⟨d, tls, told⟩ := tls_ w19
      refine ⟨_, rfl, _, rfl, _, rfl, _, rfl, .ref tl, .ref bb, .ref db, d, lD bs, iD dn, ts, bs, dn, rfl, tls, earsD w19, fun _ _ _ r H20 s20 h20 => ?_, fun k hk => (by rw [told] at hk; cases hk), fun _ c => (by rw [bnl] at c; cases c), fun _ _ c => (by rw [nmD_] at c; cases c)⟩
      have hlf20 : TupPrs H20 lf (uaF ts bs dn) := let ⟨jts, e, al⟩ := hlf; ⟨jts, s20 _ _ e, al.imp fun _ _ r => r.on (.same s20)⟩
      refine rd_nePS hlf20 h20 ⟨_, rfl, iteF ?_⟩
      have w20 := w19.same s20
      obtain ⟨d1, tls1, told1⟩ := tls_ w20
      refine ⟨_, rfl, _, rfl, rfl, rfl, .ref tl, .ref bb, d1, lD bs, ts, bs, rfl, tls1, B.bel w20.eb, fun _ _ r1 H21 s21 h21 => ?_, fun k hk => (by rw [told1] at hk; cases hk), fun _ c => (by rw [bnl] at c; cases c)⟩
      have w21 := w20.same s21
      obtain ⟨jts, et, tu⟩ := tup_ w21
      refine ⟨_, rfl, tl, jts, rfl, .inl ⟨SqL.of et, fun q2 kq2 => ?_⟩⟩
      have s22 := same_new kq2 (.tup jts)
      obtain ⟨d2, tls2, told2⟩ := tu q2 _ s22 upd_same
      have w22 := w21.same s22
      have hdf := ((hdf.same s20).same s21).same s22
      have h21 := h21.on (.same s22)
      generalize upd H21 q2 (.tup jts) = H22 at s22 tls2 w22 hdf h21 ⊢
      refine ⟨_, rfl, .ref q2, .ref bb, d2, lD bs, ts, bs, rfl, tls2, B.bel w22.eb, fun _ _ r2 H23 s23 h23 => ?_, fun k hk => (by rw [told2] at hk; cases hk), fun _ c => (by rw [bnl] at c; cases c)⟩
      refine rd_neTn (h21.on (.same s23)) h23 ⟨_, rfl, ?_⟩
      rw [decide_eq_true rfl]
      exact iteF ⟨rfl, w22.same s23, hdf.same s23⟩
    clear w19 hdf hlf
    rintro σ H20 ⟨rfl, w20, hdf⟩
    -- due, of the deaf ones
    refine ⟨fun σ H' => ∃ du, σ = S15 (some (.ref df)) (some (.ref gd)) (some (.ref du)) (some (.int m)) (some (.ref lf)) ∧ WN Pt p l tl bb ab db nsm ts bs dn H' ∧ NamsH H' du (fiF ts bs), ?_, ?_⟩
    · obtain ⟨its, en, al⟩ := id hdf
      refine ⟨_, rfl, df, its, rfl, SqX.lst en, fun J S W z0 D0 hD => ?_⟩
      refine lc_mf (ds := deafF ts bs) W (fun n => !((deafF ts bs).any fun m => !decide (m = n) && coarN n m)) LotN z0 hD al.len (fun i y n H' ey en1 s m => ?_) (fun H15 ys s15 e15 al15 => ?_)
      · obtain ⟨n', en', hn⟩ := al.get ey
        obtain rfl : n' = n := Option.some.inj (en'.symm.trans en1)
        refine ⟨rfl, _, rfl, df, its, rfl, SqX.lst (s _ _ en), fun J2 S2 W2 z2 D2 hD2 => ?_⟩
        refine lc_mf (ds := deafF ts bs) W2 (fun o => !decide (o = n') && coarN n' o) LotN z2 hD2 al.len (fun j y2 o H4 ey2 eo s4 m4 => ?_) (fun H4 zs s4 e4 al4 => ?_)
        · obtain ⟨o', eo', ho⟩ := al.get ey2
          obtain rfl : o' = o := Option.some.inj (eo'.symm.trans eo)
          have s24 := s.trans s4
          have ho4 := ho.on (.same s24)
          have hn4 := hn.on (.same s24)
          refine ⟨rfl, _, rfl, _, rfl, rd_neN ho4 hn4 ⟨_, rfl, ?_⟩⟩
          by_cases c : o' = n'
          · rw [decide_eq_true c]
            exact iteF (mf_no m4 (fun _ _ _ _ f h => h.on (.fix f)) eo (Same.refl _) (by rw [decide_eq_true c]; rfl))
          · rw [decide_eq_false c]
            refine iteT ⟨_, rfl, _, rfl, y, y2, n', o', rfl, hn4, ho4, by rw [(at_ (tD (at_mem eo))).1, (at_ (tD (at_mem en1))).1], (at_ (tD (at_mem en1))).2.1, fun H5 s5 => ⟨_, rfl, ?_⟩⟩
            cases c2 : coarN n' o' with
            | true => exact iteT ⟨_, rfl, mf_yes m4 hD2 (fun _ _ _ _ f h => h.on (.fix f)) eo (by omega) s5 (by rw [decide_eq_false c, c2]; rfl) (ho4.on (.same s5))⟩
            | false => exact iteF (mf_no m4 (fun _ _ _ _ f h => h.on (.fix f)) eo s5 (by rw [c2, Bool.and_false]))
        · refine ⟨by show 0 ≤ sizeLine; decide, fun t0 kt0 => ?_⟩
          have s5 := same_new kt0 (.lst [])
          have h5 : NamsH (upd H4 t0 (.lst [])) D2 ((deafF ts bs).filter fun o => !decide (o = n') && coarN n' o) := ⟨zs, s5 _ _ e4, al4.imp fun _ _ r => r.on (.same s5)⟩
          refine rd_eqNN h5 upd_same ⟨_, rfl, ?_⟩
          rw [no_any]
          have s45 := s4.trans s5
          cases c : !((deafF ts bs).any fun m => !decide (m = n') && coarN n' m) with
          | true => exact iteT ⟨_, rfl, mf_yes m hD (fun _ _ _ _ f h => h.on (.fix f)) en1 (by omega) s45 c ((hn.on (.same s)).on (.same s45))⟩
          | false => exact iteF (mf_no m (fun _ _ _ _ f h => h.on (.fix f)) en1 s45 c)
      · exact ⟨D0, rfl, w20.same s15, ys, e15, al15⟩
    clear w20 hdf
    rintro σ H21 ⟨du2, rfl, w21, hdu⟩
    -- finest
    refine ⟨fun σ H' => σ = S15 (some (.ref df)) (some (.ref gd)) (some (.ref du2)) (some (.int m)) (some (.ref lf)) ∧ WN Pt p l tl bb ab db nsm ts bs dn H', ?_, ?_⟩
    · obtain ⟨jts, et, tu⟩ := tup_ w21
      refine ⟨_, rfl, tl, jts, rfl, .inl ⟨SqL.of et, fun q2 kq2 => ?_⟩⟩
      have s22 := same_new kq2 (.tup jts)
      obtain ⟨d2, tls2, told2⟩ := tu q2 _ s22 upd_same
      have w22 := w21.same s22
      have hdu := hdu.same s22
      generalize upd H21 q2 (.tup jts) = H22 at s22 tls2 w22 hdu ⊢
      refine ⟨_, rfl, .ref q2, .ref bb, d2, lD bs, ts, bs, rfl, tls2, B.bel w22.eb, fun _ _ r2 H23 s23 h23 => ?_, fun k hk => (by rw [told2] at hk; cases hk), fun _ c => (by rw [bnl] at c; cases c)⟩
      refine ⟨_, _, rfl, h23.dp, rpF.sh, rpF.nd, rpF.dp, rpF.ln, ?_⟩
      obtain ⟨its, ed, ald⟩ := hdu.same s23
      refine ⟨_, rfl, du2, its, rfl, .inl ⟨SqL.of ed, fun q1 kq1 => ?_⟩⟩
      have s24 := same_new kq1 (.tup its)
      have h24 : NamsT (upd H23 q1 (.tup its)) (.ref q1) (fiF ts bs) := ⟨q1, its, rfl, upd_same, ald.imp fun _ _ r => r.on (.same s24)⟩
      refine ⟨_, _, rfl, h24.dp, rpF.sh, rpF.nd, rpF.dp, rpF.ln, rfl, _, rfl, ?_⟩
      rw [decide_eq_true rfl]
      exact iteF ⟨rfl, (w22.same s23).same s24⟩
    clear w21 hdu
    rintro σ H22 ⟨rfl, w22⟩
    obtain ⟨its, et, al⟩ := w22.w.et
    exact ⟨_, rfl, _, rfl, _, rfl, _, rfl, p, tl, bb, db, its, ts, nsm, bs, dn, rfl, w22.w.hb, w22.w.ePt, et, w22.w.tp, al, nok, fun t mt => ⟨(ti t mt).1, ok1 t mt, by have := (ti t mt).2; omega⟩, ⟨la, l4T⟩, w22.eb, bnm, bas, b4, w22.ed, okD.ln, okD.in_, fun H' => q H'⟩
end
end K6

/-! the law's own call in the layer FnG, the tables of some defs known to be empty -/
namespace Gt
open PySem PySem.Spec PyProof.Rows L2 LamX Gu
section
variable {P : Program} {w : World} {K : PySem.W.Frag} {mg : Str → Option Value} {CX : CXT}
theorem from_tabs {mb : Str → Option Value} {k : Nat} {fa a : Addr} {cs : List (Addr × Addr)} {fd : FuncData} {x : Str} {sp : Sp} {s : Shared} {vs : List Value} {H : Hp}
    (inK : K.In s.heap) (globs : s.heap.Ns mainGlobals mg) (blt : s.heap.Ns builtinsNs mb) (same : ∀ x : Str, x ≠ "__name__" → mb x = bootBuiltins x) (lim : s.heap.NoLimit) (bare : s.gens = #[])
    (tabs : ∀ p ∈ cs, s.heap.get? p.2 = some { cls := .none, data := .fields #[] }) (out : ∀ p ∈ cs, K.lookup p.2 = none) (hd : ∀ p ∈ cs, PySem.W.codeHdIn K p.1 p.2 = true)
    (main : ∃ (bm : Addr) (ob : Obj), mg "__builtins__" = some (.ref bm) ∧ bm ≠ builtinsNs ∧ s.heap.get? bm = some ob ∧ ob.cls = .type "module" ∧ ob.dict = some builtinsNs ∧ ob.data = .plain)
    (obj : s.heap.get? a = some { cls := .type "list", data := .seq vs.toArray }) (room : Room k callerA)
    (F : ∀ base : Heap, K.In base → base.Ns mainGlobals mg → (∀ p ∈ cs, TabB base mg p.1 p.2) → FnG P w K mg base CX k fa fd [x] sp) (bind : ∀ (s : Shared) (u : Value), BindsTo s fd ⟨[u], []⟩ [(x, u)])
    (isT : ∀ p ∈ cs, H p.2 = some (.tbl #[])) (else_ : ∀ b u, H b = some u → (b = a ∧ (∃ o xs, u = .frz o (.lst xs)) ∧ K.lookup a = none) ∨ ∃ p ∈ cs, b = p.2) (ok : HOk P w H s.heap) (hsp : sp [.ref a] H (fun v _ => v = .bl true) fun _ _ _ => False)
    (hCX : ∀ e s', CX [] H s (fun _ _ _ => False) e s' → False) :
    codeAny (model P w) callerA (.call (.ref fa) ⟨[.ref a], []⟩) (fun r s' => r = .ok (.ret (.bool true)) ∧ OldK s.heap s'.heap ∧ s'.os = s.os ∧ AllBare s'.gens) s := by
  -- what is neither the script nor a table is free
  have low : ∀ {b o}, s.heap.get? b = some o → (∀ vs n, o.data ≠ .seq vs n) → o.data ≠ .fields #[] → (hidT s.heap H).get? b = some o := fun {b o} e n1 n2 => hidT_get e (by
    rcases q : H b with _ | u
    · rfl
    · rcases else_ b u q with ⟨rfl, _⟩ | ⟨p, m, rfl⟩
      · rw [obj] at e; cases e; exact absurd rfl (n1 _ _)
      · rw [tabs p m] at e; cases e; exact absurd rfl n2)
  have dicts : ∀ {b : Addr} {m : Str → Option Value}, s.heap.Ns b m → (hidT s.heap H).Ns b m := fun {b m} ⟨o, es, ep, e, d, r⟩ =>
    ⟨o, es, ep, low e (fun vs n z => by rw [d] at z; cases z) (fun z => by rw [d] at z; cases z), d, r⟩
  have kin : K.In (hidT s.heap H) := fun b o e => hidT_get (inK b o e) (by
    rcases q : H b with _ | u
    · rfl
    · rcases else_ b u q with ⟨rfl, _, z⟩ | ⟨p, m, rfl⟩
      · rw [z] at e; cases e
      · rw [out p m] at e; cases e)
  have modl : Mod K mg (hidT s.heap H) := ⟨kin, dicts globs, ⟨mb, dicts blt, same⟩, let ⟨mc, h1, h2⟩ := lim; ⟨mc, dicts h1, h2⟩⟩
  have tb : ∀ p ∈ cs, TabB (hidT s.heap H) mg p.1 p.2 := fun p m => by
    have nM : mainGlobals ≠ p.2 := fun z => by
      obtain ⟨o, es, ep, e, d, _⟩ := globs
      rw [z, tabs p m] at e
      cases e
      cases d
    refine NdefX.tabB_of_K kin (hd p m) ?_ nM
    obtain ⟨bm, ob, b1, b2, b3, b4, b5, b6⟩ := main
    refine ⟨bm, ob, b1, b2, fun q => ?_, fun q => ?_, low b3 (fun vs n z => by rw [b6] at z; cases z) (fun z => by rw [b6] at z; cases z), b4, b5, b6⟩
    · obtain ⟨o, es, ep, e, d, _⟩ := globs
      rw [← q, b3] at e
      cases e
      rw [d] at b6
      cases b6
    · rw [q, tabs p m] at b3
      cases b3
      cases b6
  have env : Env0 P w K mg (hidT s.heap H) callerA [] s H := ⟨rfl, modl, fun b o e => of_hidT e, Nat.le_of_eq (hidT_size _ _), trivial, fun b hb => (nomatch hb), ok, .of_eq bare⟩
  refine codeAny_mono ((F _ kin (dicts globs) tb).go callerA [] s H ⟨[.ref a], []⟩ [.ref a] [.ref a] _ _ room rfl env (bind s (.ref a)) (.cons rfl .nil) hsp) fun r s' fin => ?_
  rcases r with e | fl
  · exact (hCX e s' fin).elim
  · rcases fl with _ | _ | _ | u <;> try exact False.elim fin
    obtain ⟨v, H', os, b', un, ok', rv, hv⟩ := fin
    obtain rfl : v = .bl true := hv
    obtain rfl : u = Value.bool true := rv
    have grown : ∀ p ∈ cs, ∃ more : Array Value, s'.heap.get? p.2 = some { cls := .none, data := .fields more } := fun p m => by
      obtain ⟨more, z⟩ := un.tbls p.2 #[] (isT p m)
      exact ⟨_, ok' p.2 _ z⟩
    have stays : ∀ b o, (¬ ∃ p ∈ cs, b = p.2) → s.heap.get? b = some o → s'.heap.get? b = some o := fun b o n e => by
      rcases q : H b with _ | z
      · exact un.keep b o e q (fun m => nomatch m) (by simp)
      · rcases else_ b z q with ⟨_, ⟨o1, xs, rfl⟩, _⟩ | t
        · have z2 := un.frzs b o1 _ q
          have old := (ok b _ q).1
          rw [e] at old
          cases old
          exact (ok' b _ z2).1
        · exact absurd t n
    refine ⟨rfl, ⟨fun b o e => ?_, fun b o e => ?_⟩, os, b'⟩
    · rcases Classical.em (∃ p ∈ cs, b = p.2) with ⟨p, m, rfl⟩ | n
      · obtain ⟨more, hm⟩ := grown p m
        rw [tabs p m] at e
        cases e
        exact .inr (.inl ⟨((PySem.W.codeHd_of_K inK (hd p m)).tab (tabs p m)).isCodeTable, rfl, #[], more, rfl, by rw [Array.empty_append]; exact hm⟩)
      · exact .inl (stays b o n e)
    · rcases Classical.em (∃ p ∈ cs, b = p.2) with ⟨p, m, rfl⟩ | n
      · obtain ⟨more, hm⟩ := grown p m
        exact ⟨_, hm⟩
      · exact ⟨o, stays b o n e⟩
theorem law_tabs {mb : Str → Option Value} {k : Nat} {fa a : Addr} {cs : List (Addr × Addr)} {fd : FuncData} {x : Str} {sp : Sp} {s : Shared} {vs : List Value} {ns : List Int}
    (inK : K.In s.heap) (globs : s.heap.Ns mainGlobals mg) (blt : s.heap.Ns builtinsNs mb) (same : ∀ x : Str, x ≠ "__name__" → mb x = bootBuiltins x) (lim : s.heap.NoLimit) (bare : s.gens = #[])
    (tabs : ∀ p ∈ cs, s.heap.get? p.2 = some { cls := .none, data := .fields #[] }) (out : ∀ p ∈ cs, K.lookup p.2 = none) (hd : ∀ p ∈ cs, PySem.W.codeHdIn K p.1 p.2 = true)
    (main : ∃ (bm : Addr) (ob : Obj), mg "__builtins__" = some (.ref bm) ∧ bm ≠ builtinsNs ∧ s.heap.get? bm = some ob ∧ ob.cls = .type "module" ∧ ob.dict = some builtinsNs ∧ ob.data = .plain)
    (obj : s.heap.get? a = some { cls := .type "list", data := .seq vs.toArray }) (ivs : IntsAre vs ns) (size : ns.length ≤ sizeLine) (room : Room k callerA)
    (F : ∀ base : Heap, K.In base → base.Ns mainGlobals mg → (∀ p ∈ cs, TabB base mg p.1 p.2) → FnG P w K mg base CX k fa fd [x] sp) (bind : ∀ (s : Shared) (u : Value), BindsTo s fd ⟨[u], []⟩ [(x, u)])
    (hsp : ∀ H : Hp, (∀ p ∈ cs, H p.2 = some (.tbl #[])) → SqL K H a (ns.map V.int) → sp [.ref a] H (fun v _ => v = .bl true) fun _ _ _ => False) (hCX : ∀ H e s', CX [] H s (fun _ _ _ => False) e s' → False) :
    codeAny (model P w) callerA (.call (.ref fa) ⟨[.ref a], []⟩) (fun r s' => r = .ok (.ret (.bool true)) ∧ OldK s.heap s'.heap ∧ s'.os = s.os ∧ AllBare s'.gens) s := by
  have rv := vals_ints ivs
  have cnt := ivs.length
  have ne : ∀ p ∈ cs, p.2 ≠ a := fun p m z => by
    have e := tabs p m
    rw [z, obj] at e
    have e' : Data.seq vs.toArray _ = Data.fields #[] := congrArg Obj.data (Option.some.inj e)
    cases e'
  let T : Hp := fun b => if b ∈ cs.map (·.2) then some (.tbl #[]) else none
  have tAt : ∀ p ∈ cs, T p.2 = some (.tbl #[]) := fun p m => if_pos (List.mem_map.mpr ⟨p, m, rfl⟩)
  have tEl : ∀ b u, T b = some u → u = .tbl #[] ∧ ∃ p ∈ cs, b = p.2 := fun b u e => by
    by_cases h : b ∈ cs.map (·.2)
    · have e : (if b ∈ cs.map (·.2) then some (HO.tbl #[]) else none) = some u := e
      rw [if_pos h] at e
      obtain ⟨p, m, z⟩ := List.mem_map.mp h
      exact ⟨(Option.some.inj e).symm, p, m, z.symm⟩
    · have e : (if b ∈ cs.map (·.2) then some (HO.tbl #[]) else none) = some u := e
      rw [if_neg h] at e
      cases e
  have tOk : HOk P w T s.heap := fun b u e => by
    obtain ⟨rfl, p, m, rfl⟩ := tEl b u e
    exact tabs p m
  rcases own : K.lookup a with _ | o
  · let H : Hp := fun b => if b = a then some (.frz { cls := .type "list", data := .seq vs.toArray } (.lst (ns.map V.int))) else T b
    have hN : ∀ b, b ≠ a → H b = T b := fun b n => if_neg n
    have hA : H a = some (.frz { cls := .type "list", data := .seq vs.toArray } (.lst (ns.map V.int))) := if_pos rfl
    have hT : ∀ p ∈ cs, H p.2 = some (.tbl #[]) := fun p m => (hN _ (ne p m)).trans (tAt p m)
    refine from_tabs (H := H) inK globs blt same lim bare tabs out hd main obj room F bind hT (fun b u e => ?_) (fun b u e => ?_) (hsp H hT (.inl (.inr ⟨_, hA⟩))) (fun e s' => hCX _ e s')
    · by_cases hb : b = a
      · rw [hb, hA] at e
        exact .inl ⟨hb, ⟨_, _, (Option.some.inj e).symm⟩, own⟩
      · rw [hN b hb] at e
        exact .inr (tEl b u e).2
    · by_cases hb : b = a
      · subst hb
        rw [hA] at e
        cases e
        exact ⟨obj, by rw [List.length_map]; exact size, vs, _, rv, obj⟩
      · rw [hN b hb] at e
        obtain ⟨rfl, p, m, rfl⟩ := tEl b u e
        exact tabs p m
  · have w0 := inK a o own
    rw [obj] at w0
    cases w0
    exact from_tabs (H := T) inK globs blt same lim bare tabs out hd main obj room F bind tAt (fun b u e => .inr (tEl b u e).2) tOk
      (hsp T tAt (.inr ⟨_, vs.toArray, _, own, rfl, rfl, rfl, by rw [List.size_toArray, cnt]; exact size, by simpa using rv⟩)) (fun e s' => hCX _ e s')
end
/-- what the head gives of the law: cs, the code objects and their tables -/
def LawT (l : PySem.W.OpenLaw) (w : World) (K : PySem.W.Frag) (k n : Nat) (x : Str) (mg : Str → Option Value) (fa : Addr) (h : Heap) : Prop :=
  ∃ (fd : FuncData) (cs : List (Addr × Addr)) (sp : Sp), (∀ p ∈ cs, h.get? p.2 = some { cls := .none, data := .fields #[] }) ∧ (∀ p ∈ cs, K.lookup p.2 = none) ∧ (∀ p ∈ cs, PySem.W.codeHdIn K p.1 p.2 = true) ∧ (∀ (s : Shared) (u : Value), BindsTo s fd ⟨[u], []⟩ [(x, u)]) ∧
    (∀ (H : Hp) (a : Addr) (ns : List Int), ns.length ≤ n → (∀ p ∈ cs, H p.2 = some (.tbl #[])) → SqL K H a (ns.map V.int) → sp [.ref a] H (fun v _ => v = .bl true) fun _ _ _ => False) ∧
    ∀ base : Heap, K.In base → base.Ns mainGlobals mg → (∀ p ∈ cs, TabB base mg p.1 p.2) → FnG l.prog w K mg base CX0 k fa fd [x] sp
theorem walk_tabs {l : PySem.W.OpenLaw} {n k : Nat} {q : Program} {loose : List Str} {XP : (Str → Option Value) → Heap → Prop} {YP : World → Heap → Prop} {d : DefRec} {K : Params → PySem.W.Frag} {x : Str}
    (most : l.most = some n) (fits : n ≤ sizeLine) (plain : d.params.defaults = []) (room : Room k callerA) (kin : ∀ (w : World) (g : Heap), YP w g → (K w.params).In g)
    (F : ∀ (w : World) (mg : Str → Option Value) (fa : Addr) (g : Heap), YP w g → (K w.params).In g → g.Ns mainGlobals mg → mg d.name = some (.ref fa) → LawT l w (K w.params) k n x mg fa g) :
    PySem.W.WalkO q loose XP YP l.row.toRowW d [] (fun f vs => PySem.call f vs) := by
  refine Att.attach_callB most plain fun w t0 t1 mg mb fa ob pm cd doc ar vs ns Gd Yd _ _ _ nmf ob2 iz len bits gen => ?_
  have KX := kin w _ Yd
  obtain ⟨fd, cs, sp, T1, T2, T3, bnd, prom, fn⟩ := F w mg fa _ Yd KX Gd.T.g nmf
  exact law_tabs KX Gd.T.g Gd.T.b Gd.T.builtins Gd.T.nolimit gen T1 T2 T3 Gd.T.bmain ob2 iz (Nat.le_trans len fits) room fn bnd (fun H hH hS => prom H ar ns len hH hS) fun H e s' z => z
end Gt

namespace K6
open PySem PySem.Spec PyProof.Rows L2 Hb St Sq Ow En Zp RZ Rd Xb Da Lo Wa LamX Lc Lp Lg Ty Tm Rp
theorem all_mk {l : PySem.W.OpenLaw} {w : World} {K : PySem.W.Frag} {h : Heap} {mg : Str → Option Value} {fa f_is_integer f_is_number f_is_sequence f_is_name f_as_lot f_thin_tale f_thin_lot f_is_lot f_is_name_lot f_is_tale f_need_tales f_need_told f_need_bells f_need_naming f_plain_naming f_is_coarser f_heard_tones f_tones_in f_need_all f_unheard_pairs f_unheard_among f_plain_namings f_telling_namings f_coarsest_namings f_finest_deaf f_fewest_tones f__law_box f__law_take f__law_pick f__law_names f__law_tale f__law_changed f__law_tones f__law_left f__law_plain f__law_all f__law_coarser f__law_word f_law : Addr} (X : K.In h) (G : h.Ns mainGlobals mg) (hfa : mg "law" = some (.ref fa)) {B C D : Addr} {tkL : Tok} {N_c fI_c : Addr} {nm_c q_c : Str} {bs_c : List Value} {sn_c : List Str} {sub_c : List Value} {ab_c : Bool} {col_c : Option Bool} {dd_c : Option Addr} {m0_c m1_c m2_c m3_c m5_c : Option Value} {ocI_c dcI_c pmI_c cdI_c ctI_c : Value} {odI_c anI_c : Option Addr} {slI_c : Array (Option Value)} {N_d fI_d : Addr} {nm_d q_d : Str} {bs_d : List Value} {sn_d : List Str} {sub_d : List Value} {ab_d : Bool} {col_d : Option Bool} {dd_d : Option Addr} {m0_d m1_d m2_d m3_d m5_d : Option Value} {ocI_d dcI_d pmI_d cdI_d ctI_d : Value} {odI_d anI_d : Option Addr} {slI_d : Array (Option Value)} {g_RI c_RI P_RI : Addr} {odRI anRI ddRI : Option Addr} {slRI svRI : Array (Option Value)} {ocRI kVRI dcRI pmRI ctRI clRI : Value} {vsRI : Array Value}
    {od0 an0 od1 an1 od2 an2 od3 an3 od4 an4 od5 an5 od6 an6 od7 an7 od8 an8 od9 an9 od10 an10 od11 an11 od12 an12 od13 an13 od14 an14 od15 an15 od16 an16 od17 an17 od18 an18 od19 an19 od20 an20 od21 an21 od22 an22 od23 an23 od24 an24 od25 an25 od26 an26 od27 an27 od28 an28 od29 an29 od30 an30 od31 an31 od32 an32 od33 an33 od34 an34 od35 an35 od36 an36 od37 an37 od38 an38 : Option Addr} {sl0 sl1 sl2 sl3 sl4 sl5 sl6 sl7 sl8 sl9 sl10 sl11 sl12 sl13 sl14 sl15 sl16 sl17 sl18 sl19 sl20 sl21 sl22 sl23 sl24 sl25 sl26 sl27 sl28 sl29 sl30 sl31 sl32 sl33 sl34 sl35 sl36 sl37 sl38 : Array (Option Value)} {oc0 kV0 dc0 pm0 cd0 ct0 oc1 kV1 dc1 pm1 cd1 ct1 oc2 kV2 dc2 pm2 cd2 ct2 oc3 kV3 dc3 pm3 cd3 ct3 oc4 kV4 dc4 pm4 cd4 ct4 oc5 kV5 dc5 pm5 cd5 ct5 oc6 kV6 dc6 pm6 cd6 ct6 oc7 kV7 dc7 pm7 cd7 ct7 oc8 kV8 dc8 pm8 cd8 ct8 oc9 kV9 dc9 pm9 cd9 ct9 oc10 kV10 dc10 pm10 cd10 ct10 oc11 kV11 dc11 pm11 cd11 ct11 oc12 kV12 dc12 pm12 cd12 ct12 oc13 kV13 dc13 pm13 cd13 ct13 oc14 kV14 dc14 pm14 cd14 ct14 oc15 kV15 dc15 pm15 cd15 ct15 oc16 kV16 dc16 pm16 cd16 ct16 oc17 kV17 dc17 pm17 cd17 ct17 oc18 kV18 dc18 pm18 cd18 ct18 oc19 kV19 dc19 pm19 cd19 ct19 oc20 kV20 dc20 pm20 cd20 ct20 oc21 kV21 dc21 pm21 cd21 ct21 oc22 kV22 dc22 pm22 cd22 ct22 oc23 kV23 dc23 pm23 cd23 ct23 oc24 kV24 dc24 pm24 cd24 ct24 oc25 kV25 dc25 pm25 cd25 ct25 oc26 kV26 dc26 pm26 cd26 ct26 oc27 kV27 dc27 pm27 cd27 ct27 oc28 kV28 dc28 pm28 cd28 ct28 oc29 kV29 dc29 pm29 cd29 ct29 oc30 kV30 dc30 pm30 cd30 ct30 oc31 kV31 dc31 pm31 cd31 ct31 oc32 kV32 dc32 pm32 cd32 ct32 oc33 kV33 dc33 pm33 cd33 ct33 oc34 kV34 dc34 pm34 cd34 ct34 oc35 kV35 dc35 pm35 cd35 ct35 oc36 kV36 dc36 pm36 cd36 ct36 oc37 kV37 dc37 pm37 cd37 ct37 oc38 kV38 dc38 pm38 cd38 ct38 : Value}
    (aB : PySem.W.nsIn K mainGlobals "BellError" = some (some (.ref B)))
    (aC_c : PySem.W.nsIn K mainGlobals "InvalidHeard" = some (some (.ref C)))
    (xL_c : K.lookup C = some (PySem.excClassObj nm_c q_c C N_c bs_c [.ref B, .type "Exception", .type "BaseException", .type "object"] true sn_c sub_c ab_c col_c dd_c m0_c m1_c m2_c m3_c m5_c "Exception.__new__"))
    (sa_c : PySem.W.findIn K (.ref C) "__setattr__" = some (some (.builtin "object.__setattr__")))
    (ga_c : PySem.W.findIn K (.ref C) "__getattribute__" = some (some (.builtin "BaseException.__getattribute__")))
    (gg_c : PySem.W.findIn K (.ref C) "__getattr__" = some none)
    (nb_c : PySem.W.findIn K (.ref C) "at" = some none)
    (aI_c : PySem.W.findIn K (.ref C) "__init__" = some (some (.ref fI_c)))
    (tI_c : PySem.W.typeIn K (.ref fI_c) = some (.type "function"))
    (lI_c : K.lookup fI_c = some ⟨ocI_c, odI_c, .func (PySem.W.fnOf "__init__" "InvalidHeard.__init__" (Xb.iA ⟨7, 17, 7, 21⟩ ⟨7, 23, 7, 25⟩) (Xb.iB ⟨8, 8, 8, 12⟩ ⟨8, 8, 8, 15⟩ ⟨8, 18, 8, 20⟩ ⟨8, 8, 8, 20⟩) Xb.iS .none .none dcI_c pmI_c anI_c cdI_c ctI_c), slI_c⟩)
    (cI_c : PySem.W.codeIn K cdI_c "InvalidHeard.__init__" = true)
    (kC_c : PySem.W.keepIn K (.ref C) = true)
    (eC_c : PySem.W.subIn K (.ref C) (.type "BaseException") = some true)
    (tC_c : PySem.W.typeIn K (.ref C) = some (.type "type"))
    (hC_c : PySem.W.hasDictIn K C = true)
    (sC_c : PySem.W.subIn K (.ref C) (.ref C) = some true)
    (aC_d : PySem.W.nsIn K mainGlobals "InvalidSize" = some (some (.ref D)))
    (xL_d : K.lookup D = some (PySem.excClassObj nm_d q_d D N_d bs_d [.ref B, .type "Exception", .type "BaseException", .type "object"] true sn_d sub_d ab_d col_d dd_d m0_d m1_d m2_d m3_d m5_d "Exception.__new__"))
    (sa_d : PySem.W.findIn K (.ref D) "__setattr__" = some (some (.builtin "object.__setattr__")))
    (ga_d : PySem.W.findIn K (.ref D) "__getattribute__" = some (some (.builtin "BaseException.__getattribute__")))
    (gg_d : PySem.W.findIn K (.ref D) "__getattr__" = some none)
    (nb_d : PySem.W.findIn K (.ref D) "word" = some none)
    (aI_d : PySem.W.findIn K (.ref D) "__init__" = some (some (.ref fI_d)))
    (tI_d : PySem.W.typeIn K (.ref fI_d) = some (.type "function"))
    (lI_d : K.lookup fI_d = some ⟨ocI_d, odI_d, .func (PySem.W.fnOf "__init__" "InvalidSize.__init__" (Xw.iA ⟨11, 17, 11, 21⟩ ⟨11, 23, 11, 27⟩) (Xw.iB ⟨12, 8, 12, 12⟩ ⟨12, 8, 12, 17⟩ ⟨12, 20, 12, 24⟩ ⟨12, 8, 12, 24⟩) Xw.iS .none .none dcI_d pmI_d anI_d cdI_d ctI_d), slI_d⟩)
    (cI_d : PySem.W.codeIn K cdI_d "InvalidSize.__init__" = true)
    (kC_d : PySem.W.keepIn K (.ref D) = true)
    (eC_d : PySem.W.subIn K (.ref D) (.type "BaseException") = some true)
    (tC_d : PySem.W.typeIn K (.ref D) = some (.type "type"))
    (hC_d : PySem.W.hasDictIn K D = true)
    (sC_d : PySem.W.subIn K (.ref D) (.ref D) = some true)
    (sDC : PySem.W.subIn K (.ref D) (.ref C) = some false)
    (a0 : PySem.W.nsIn K mainGlobals "is_integer" = some (some (.ref f_is_integer)))
    (l0 : K.lookup f_is_integer = some ⟨oc0, od0, .func (PySem.W.fnOf "is_integer" "is_integer" (defArgs s_is_integer) (defBody s_is_integer) (defScope s_is_integer) .none kV0 dc0 pm0 an0 cd0 ct0), sl0⟩)
    (c0 : PySem.W.codeIn K cd0 "is_integer" = true)
    (k0 : PySem.W.keepIn K (.ref f_is_integer) = true)
    (a1 : PySem.W.nsIn K mainGlobals "is_number" = some (some (.ref f_is_number)))
    (l1 : K.lookup f_is_number = some ⟨oc1, od1, .func (PySem.W.fnOf "is_number" "is_number" (defArgs s_is_number) (defBody s_is_number) (defScope s_is_number) .none kV1 dc1 pm1 an1 cd1 ct1), sl1⟩)
    (c1 : PySem.W.codeIn K cd1 "is_number" = true)
    (k1 : PySem.W.keepIn K (.ref f_is_number) = true)
    (a2 : PySem.W.nsIn K mainGlobals "is_sequence" = some (some (.ref f_is_sequence)))
    (l2 : K.lookup f_is_sequence = some ⟨oc2, od2, .func (PySem.W.fnOf "is_sequence" "is_sequence" (defArgs s_is_sequence) (defBody s_is_sequence) (defScope s_is_sequence) .none kV2 dc2 pm2 an2 cd2 ct2), sl2⟩)
    (c2 : PySem.W.codeIn K cd2 "is_sequence" = true)
    (k2 : PySem.W.keepIn K (.ref f_is_sequence) = true)
    (a3 : PySem.W.nsIn K mainGlobals "is_name" = some (some (.ref f_is_name)))
    (l3 : K.lookup f_is_name = some ⟨oc3, od3, .func (PySem.W.fnOf "is_name" "is_name" (defArgs s_is_name) (defBody s_is_name) (defScope s_is_name) .none kV3 dc3 pm3 an3 cd3 ct3), sl3⟩)
    (c3 : PySem.W.codeIn K cd3 "is_name" = true)
    (k3 : PySem.W.keepIn K (.ref f_is_name) = true)
    (a4 : PySem.W.nsIn K mainGlobals "as_lot" = some (some (.ref f_as_lot)))
    (l4 : K.lookup f_as_lot = some ⟨oc4, od4, .func (PySem.W.fnOf "as_lot" "as_lot" (defArgs s_as_lot) (defBody s_as_lot) (defScope s_as_lot) .none kV4 dc4 pm4 an4 cd4 ct4), sl4⟩)
    (c4 : PySem.W.codeIn K cd4 "as_lot" = true)
    (k4 : PySem.W.keepIn K (.ref f_as_lot) = true)
    (a5 : PySem.W.nsIn K mainGlobals "thin_tale" = some (some (.ref f_thin_tale)))
    (l5 : K.lookup f_thin_tale = some ⟨oc5, od5, .func (PySem.W.fnOf "thin_tale" "thin_tale" (defArgs s_thin_tale) (defBody s_thin_tale) (defScope s_thin_tale) .none kV5 dc5 pm5 an5 cd5 ct5), sl5⟩)
    (c5 : PySem.W.codeIn K cd5 "thin_tale" = true)
    (k5 : PySem.W.keepIn K (.ref f_thin_tale) = true)
    (a6 : PySem.W.nsIn K mainGlobals "thin_lot" = some (some (.ref f_thin_lot)))
    (l6 : K.lookup f_thin_lot = some ⟨oc6, od6, .func (PySem.W.fnOf "thin_lot" "thin_lot" (defArgs s_thin_lot) (defBody s_thin_lot) (defScope s_thin_lot) .none kV6 dc6 pm6 an6 cd6 ct6), sl6⟩)
    (c6 : PySem.W.codeIn K cd6 "thin_lot" = true)
    (k6 : PySem.W.keepIn K (.ref f_thin_lot) = true)
    (a7 : PySem.W.nsIn K mainGlobals "is_lot" = some (some (.ref f_is_lot)))
    (l7 : K.lookup f_is_lot = some ⟨oc7, od7, .func (PySem.W.fnOf "is_lot" "is_lot" (defArgs s_is_lot) (defBody s_is_lot) (defScope s_is_lot) .none kV7 dc7 pm7 an7 cd7 ct7), sl7⟩)
    (c7 : PySem.W.codeIn K cd7 "is_lot" = true)
    (k7 : PySem.W.keepIn K (.ref f_is_lot) = true)
    (a8 : PySem.W.nsIn K mainGlobals "is_name_lot" = some (some (.ref f_is_name_lot)))
    (l8 : K.lookup f_is_name_lot = some ⟨oc8, od8, .func (PySem.W.fnOf "is_name_lot" "is_name_lot" (defArgs s_is_name_lot) (defBody s_is_name_lot) (defScope s_is_name_lot) .none kV8 dc8 pm8 an8 cd8 ct8), sl8⟩)
    (c8 : PySem.W.codeIn K cd8 "is_name_lot" = true)
    (k8 : PySem.W.keepIn K (.ref f_is_name_lot) = true)
    (a9 : PySem.W.nsIn K mainGlobals "is_tale" = some (some (.ref f_is_tale)))
    (l9 : K.lookup f_is_tale = some ⟨oc9, od9, .func (PySem.W.fnOf "is_tale" "is_tale" (defArgs s_is_tale) (defBody s_is_tale) (defScope s_is_tale) .none kV9 dc9 pm9 an9 cd9 ct9), sl9⟩)
    (c9 : PySem.W.codeIn K cd9 "is_tale" = true)
    (k9 : PySem.W.keepIn K (.ref f_is_tale) = true)
    (a10 : PySem.W.nsIn K mainGlobals "need_tales" = some (some (.ref f_need_tales)))
    (l10 : K.lookup f_need_tales = some ⟨oc10, od10, .func (PySem.W.fnOf "need_tales" "need_tales" (defArgs s_need_tales) (defBody s_need_tales) (defScope s_need_tales) .none kV10 dc10 pm10 an10 cd10 ct10), sl10⟩)
    (c10 : PySem.W.codeIn K cd10 "need_tales" = true)
    (k10 : PySem.W.keepIn K (.ref f_need_tales) = true)
    (a11 : PySem.W.nsIn K mainGlobals "need_told" = some (some (.ref f_need_told)))
    (l11 : K.lookup f_need_told = some ⟨oc11, od11, .func (PySem.W.fnOf "need_told" "need_told" (defArgs s_need_told) (defBody s_need_told) (defScope s_need_told) .none kV11 dc11 pm11 an11 cd11 ct11), sl11⟩)
    (c11 : PySem.W.codeIn K cd11 "need_told" = true)
    (k11 : PySem.W.keepIn K (.ref f_need_told) = true)
    (a12 : PySem.W.nsIn K mainGlobals "need_bells" = some (some (.ref f_need_bells)))
    (l12 : K.lookup f_need_bells = some ⟨oc12, od12, .func (PySem.W.fnOf "need_bells" "need_bells" (defArgs s_need_bells) (defBody s_need_bells) (defScope s_need_bells) .none kV12 dc12 pm12 an12 cd12 ct12), sl12⟩)
    (c12 : PySem.W.codeIn K cd12 "need_bells" = true)
    (k12 : PySem.W.keepIn K (.ref f_need_bells) = true)
    (a13 : PySem.W.nsIn K mainGlobals "need_naming" = some (some (.ref f_need_naming)))
    (l13 : K.lookup f_need_naming = some ⟨oc13, od13, .func (PySem.W.fnOf "need_naming" "need_naming" (defArgs s_need_naming) (defBody s_need_naming) (defScope s_need_naming) .none kV13 dc13 pm13 an13 cd13 ct13), sl13⟩)
    (c13 : PySem.W.codeIn K cd13 "need_naming" = true)
    (k13 : PySem.W.keepIn K (.ref f_need_naming) = true)
    (a14 : PySem.W.nsIn K mainGlobals "plain_naming" = some (some (.ref f_plain_naming)))
    (l14 : K.lookup f_plain_naming = some ⟨oc14, od14, .func (PySem.W.fnOf "plain_naming" "plain_naming" (defArgs s_plain_naming) (defBody s_plain_naming) (defScope s_plain_naming) .none kV14 dc14 pm14 an14 cd14 ct14), sl14⟩)
    (c14 : PySem.W.codeIn K cd14 "plain_naming" = true)
    (k14 : PySem.W.keepIn K (.ref f_plain_naming) = true)
    (a15 : PySem.W.nsIn K mainGlobals "is_coarser" = some (some (.ref f_is_coarser)))
    (l15 : K.lookup f_is_coarser = some ⟨oc15, od15, .func (PySem.W.fnOf "is_coarser" "is_coarser" (defArgs s_is_coarser) (defBody s_is_coarser) (defScope s_is_coarser) .none kV15 dc15 pm15 an15 cd15 ct15), sl15⟩)
    (c15 : PySem.W.codeIn K cd15 "is_coarser" = true)
    (k15 : PySem.W.keepIn K (.ref f_is_coarser) = true)
    (a16 : PySem.W.nsIn K mainGlobals "heard_tones" = some (some (.ref f_heard_tones)))
    (l16 : K.lookup f_heard_tones = some ⟨oc16, od16, .func (PySem.W.fnOf "heard_tones" "heard_tones" (defArgs s_heard_tones) (defBody s_heard_tones) (defScope s_heard_tones) .none kV16 dc16 pm16 an16 cd16 ct16), sl16⟩)
    (c16 : PySem.W.codeIn K cd16 "heard_tones" = true)
    (k16 : PySem.W.keepIn K (.ref f_heard_tones) = true)
    (a17 : PySem.W.nsIn K mainGlobals "tones_in" = some (some (.ref f_tones_in)))
    (l17 : K.lookup f_tones_in = some ⟨oc17, od17, .func (PySem.W.fnOf "tones_in" "tones_in" (defArgs s_tones_in) (defBody s_tones_in) (defScope s_tones_in) .none kV17 dc17 pm17 an17 cd17 ct17), sl17⟩)
    (c17 : PySem.W.codeIn K cd17 "tones_in" = true)
    (k17 : PySem.W.keepIn K (.ref f_tones_in) = true)
    (a18 : PySem.W.nsIn K mainGlobals "need_all" = some (some (.ref f_need_all)))
    (l18 : K.lookup f_need_all = some ⟨oc18, od18, .func (PySem.W.fnOf "need_all" "need_all" (defArgs s_need_all) (defBody s_need_all) (defScope s_need_all) .none kV18 dc18 pm18 an18 cd18 ct18), sl18⟩)
    (c18 : PySem.W.codeIn K cd18 "need_all" = true)
    (k18 : PySem.W.keepIn K (.ref f_need_all) = true)
    (a19 : PySem.W.nsIn K mainGlobals "unheard_pairs" = some (some (.ref f_unheard_pairs)))
    (l19 : K.lookup f_unheard_pairs = some ⟨oc19, od19, .func (PySem.W.fnOf "unheard_pairs" "unheard_pairs" (defArgs s_unheard_pairs) (defBody s_unheard_pairs) (defScope s_unheard_pairs) .none kV19 dc19 pm19 an19 cd19 ct19), sl19⟩)
    (c19 : PySem.W.codeIn K cd19 "unheard_pairs" = true)
    (k19 : PySem.W.keepIn K (.ref f_unheard_pairs) = true)
    (a20 : PySem.W.nsIn K mainGlobals "unheard_among" = some (some (.ref f_unheard_among)))
    (l20 : K.lookup f_unheard_among = some ⟨oc20, od20, .func (PySem.W.fnOf "unheard_among" "unheard_among" (defArgs s_unheard_among) (defBody s_unheard_among) (defScope s_unheard_among) .none kV20 dc20 pm20 an20 cd20 ct20), sl20⟩)
    (c20 : PySem.W.codeIn K cd20 "unheard_among" = true)
    (k20 : PySem.W.keepIn K (.ref f_unheard_among) = true)
    (a21 : PySem.W.nsIn K mainGlobals "plain_namings" = some (some (.ref f_plain_namings)))
    (l21 : K.lookup f_plain_namings = some ⟨oc21, od21, .func (PySem.W.fnOf "plain_namings" "plain_namings" (defArgs s_plain_namings) (defBody s_plain_namings) (defScope s_plain_namings) .none kV21 dc21 pm21 an21 cd21 ct21), sl21⟩)
    (c21 : PySem.W.codeIn K cd21 "plain_namings" = true)
    (k21 : PySem.W.keepIn K (.ref f_plain_namings) = true)
    (a22 : PySem.W.nsIn K mainGlobals "telling_namings" = some (some (.ref f_telling_namings)))
    (l22 : K.lookup f_telling_namings = some ⟨oc22, od22, .func (PySem.W.fnOf "telling_namings" "telling_namings" (defArgs s_telling_namings) (defBody s_telling_namings) (defScope s_telling_namings) .none kV22 dc22 pm22 an22 cd22 ct22), sl22⟩)
    (c22 : PySem.W.codeIn K cd22 "telling_namings" = true)
    (k22 : PySem.W.keepIn K (.ref f_telling_namings) = true)
    (a23 : PySem.W.nsIn K mainGlobals "coarsest_namings" = some (some (.ref f_coarsest_namings)))
    (l23 : K.lookup f_coarsest_namings = some ⟨oc23, od23, .func (PySem.W.fnOf "coarsest_namings" "coarsest_namings" (defArgs s_coarsest_namings) (defBody s_coarsest_namings) (defScope s_coarsest_namings) .none kV23 dc23 pm23 an23 cd23 ct23), sl23⟩)
    (c23 : PySem.W.codeIn K cd23 "coarsest_namings" = true)
    (k23 : PySem.W.keepIn K (.ref f_coarsest_namings) = true)
    (a24 : PySem.W.nsIn K mainGlobals "finest_deaf" = some (some (.ref f_finest_deaf)))
    (l24 : K.lookup f_finest_deaf = some ⟨oc24, od24, .func (PySem.W.fnOf "finest_deaf" "finest_deaf" (defArgs s_finest_deaf) (defBody s_finest_deaf) (defScope s_finest_deaf) .none kV24 dc24 pm24 an24 cd24 ct24), sl24⟩)
    (c24 : PySem.W.codeIn K cd24 "finest_deaf" = true)
    (k24 : PySem.W.keepIn K (.ref f_finest_deaf) = true)
    (a25 : PySem.W.nsIn K mainGlobals "fewest_tones" = some (some (.ref f_fewest_tones)))
    (l25 : K.lookup f_fewest_tones = some ⟨oc25, od25, .func (PySem.W.fnOf "fewest_tones" "fewest_tones" (defArgs s_fewest_tones) (defBody s_fewest_tones) (defScope s_fewest_tones) .none kV25 dc25 pm25 an25 cd25 ct25), sl25⟩)
    (c25 : PySem.W.codeIn K cd25 "fewest_tones" = true)
    (k25 : PySem.W.keepIn K (.ref f_fewest_tones) = true)
    (a26 : PySem.W.nsIn K mainGlobals "_law_box" = some (some (.ref f__law_box)))
    (l26 : K.lookup f__law_box = some ⟨oc26, od26, .func (PySem.W.fnOf "_law_box" "_law_box" (defArgs s__law_box) (defBody s__law_box) (defScope s__law_box) .none kV26 dc26 pm26 an26 cd26 ct26), sl26⟩)
    (c26 : PySem.W.codeIn K cd26 "_law_box" = true)
    (k26 : PySem.W.keepIn K (.ref f__law_box) = true)
    (a27 : PySem.W.nsIn K mainGlobals "_law_take" = some (some (.ref f__law_take)))
    (l27 : K.lookup f__law_take = some ⟨oc27, od27, .func (PySem.W.fnOf "_law_take" "_law_take" (defArgs s__law_take) (defBody s__law_take) (defScope s__law_take) .none kV27 dc27 pm27 an27 cd27 ct27), sl27⟩)
    (c27 : PySem.W.codeIn K cd27 "_law_take" = true)
    (k27 : PySem.W.keepIn K (.ref f__law_take) = true)
    (a28 : PySem.W.nsIn K mainGlobals "_law_pick" = some (some (.ref f__law_pick)))
    (l28 : K.lookup f__law_pick = some ⟨oc28, od28, .func (PySem.W.fnOf "_law_pick" "_law_pick" (defArgs s__law_pick) (defBody s__law_pick) (defScope s__law_pick) .none kV28 dc28 pm28 an28 cd28 ct28), sl28⟩)
    (c28 : PySem.W.codeIn K cd28 "_law_pick" = true)
    (k28 : PySem.W.keepIn K (.ref f__law_pick) = true)
    (a29 : PySem.W.nsIn K mainGlobals "_law_names" = some (some (.ref f__law_names)))
    (l29 : K.lookup f__law_names = some ⟨oc29, od29, .func (PySem.W.fnOf "_law_names" "_law_names" (defArgs s__law_names) (defBody s__law_names) (defScope s__law_names) .none kV29 dc29 pm29 an29 cd29 ct29), sl29⟩)
    (c29 : PySem.W.codeIn K cd29 "_law_names" = true)
    (k29 : PySem.W.keepIn K (.ref f__law_names) = true)
    (a30 : PySem.W.nsIn K mainGlobals "_law_tale" = some (some (.ref f__law_tale)))
    (l30 : K.lookup f__law_tale = some ⟨oc30, od30, .func (PySem.W.fnOf "_law_tale" "_law_tale" (defArgs s__law_tale) (defBody s__law_tale) (defScope s__law_tale) .none kV30 dc30 pm30 an30 cd30 ct30), sl30⟩)
    (c30 : PySem.W.codeIn K cd30 "_law_tale" = true)
    (k30 : PySem.W.keepIn K (.ref f__law_tale) = true)
    (a31 : PySem.W.nsIn K mainGlobals "_law_changed" = some (some (.ref f__law_changed)))
    (l31 : K.lookup f__law_changed = some ⟨oc31, od31, .func (PySem.W.fnOf "_law_changed" "_law_changed" (defArgs s__law_changed) (defBody s__law_changed) (defScope s__law_changed) .none kV31 dc31 pm31 an31 cd31 ct31), sl31⟩)
    (c31 : PySem.W.codeIn K cd31 "_law_changed" = true)
    (k31 : PySem.W.keepIn K (.ref f__law_changed) = true)
    (a32 : PySem.W.nsIn K mainGlobals "_law_tones" = some (some (.ref f__law_tones)))
    (l32 : K.lookup f__law_tones = some ⟨oc32, od32, .func (PySem.W.fnOf "_law_tones" "_law_tones" (defArgs s__law_tones) (defBody s__law_tones) (defScope s__law_tones) .none kV32 dc32 pm32 an32 cd32 ct32), sl32⟩)
    (c32 : PySem.W.codeIn K cd32 "_law_tones" = true)
    (k32 : PySem.W.keepIn K (.ref f__law_tones) = true)
    (a33 : PySem.W.nsIn K mainGlobals "_law_left" = some (some (.ref f__law_left)))
    (l33 : K.lookup f__law_left = some ⟨oc33, od33, .func (PySem.W.fnOf "_law_left" "_law_left" (defArgs s__law_left) (defBody s__law_left) (defScope s__law_left) .none kV33 dc33 pm33 an33 cd33 ct33), sl33⟩)
    (c33 : PySem.W.codeIn K cd33 "_law_left" = true)
    (k33 : PySem.W.keepIn K (.ref f__law_left) = true)
    (a34 : PySem.W.nsIn K mainGlobals "_law_plain" = some (some (.ref f__law_plain)))
    (l34 : K.lookup f__law_plain = some ⟨oc34, od34, .func (PySem.W.fnOf "_law_plain" "_law_plain" (defArgs s__law_plain) (defBody s__law_plain) (defScope s__law_plain) .none kV34 dc34 pm34 an34 cd34 ct34), sl34⟩)
    (c34 : PySem.W.codeIn K cd34 "_law_plain" = true)
    (k34 : PySem.W.keepIn K (.ref f__law_plain) = true)
    (a35 : PySem.W.nsIn K mainGlobals "_law_all" = some (some (.ref f__law_all)))
    (l35 : K.lookup f__law_all = some ⟨oc35, od35, .func (PySem.W.fnOf "_law_all" "_law_all" (defArgs s__law_all) (defBody s__law_all) (defScope s__law_all) .none kV35 dc35 pm35 an35 cd35 ct35), sl35⟩)
    (c35 : PySem.W.codeIn K cd35 "_law_all" = true)
    (k35 : PySem.W.keepIn K (.ref f__law_all) = true)
    (a36 : PySem.W.nsIn K mainGlobals "_law_coarser" = some (some (.ref f__law_coarser)))
    (l36 : K.lookup f__law_coarser = some ⟨oc36, od36, .func (PySem.W.fnOf "_law_coarser" "_law_coarser" (defArgs s__law_coarser) (defBody s__law_coarser) (defScope s__law_coarser) .none kV36 dc36 pm36 an36 cd36 ct36), sl36⟩)
    (c36 : PySem.W.codeIn K cd36 "_law_coarser" = true)
    (k36 : PySem.W.keepIn K (.ref f__law_coarser) = true)
    (a37 : PySem.W.nsIn K mainGlobals "_law_word" = some (some (.ref f__law_word)))
    (l37 : K.lookup f__law_word = some ⟨oc37, od37, .func (PySem.W.fnOf "_law_word" "_law_word" (defArgs s__law_word) (defBody s__law_word) (defScope s__law_word) .none kV37 dc37 pm37 an37 cd37 ct37), sl37⟩)
    (c37 : PySem.W.codeIn K cd37 "_law_word" = true)
    (k37 : PySem.W.keepIn K (.ref f__law_word) = true)
    (a38 : PySem.W.nsIn K mainGlobals "law" = some (some (.ref f_law)))
    (l38 : K.lookup f_law = some ⟨oc38, od38, .func (PySem.W.fnOf "law" "law" (defArgs s_law) (defBody s_law) (defScope s_law) .none kV38 dc38 pm38 an38 cd38 ct38), sl38⟩)
    (c38 : PySem.W.codeIn K cd38 "law" = true)
    (k38 : PySem.W.keepIn K (.ref f_law) = true)
    (aM_RI : PySem.W.nsIn K mainGlobals "_law_refused_right" = some (some (.ref g_RI)))
    (lM_RI : K.lookup g_RI = some ⟨ocRI, odRI, .func (PySem.W.fnOf "_law_refused_right" "_law_refused_right" (defArgs s__law_refused_right) (defBody s__law_refused_right) (defScope s__law_refused_right) .none kVRI dcRI pmRI anRI (.ref c_RI) ctRI), slRI⟩)
    (cM_RI : PySem.W.codeIn K (.ref c_RI) "_law_refused_right" = true)
    (kM_RI : PySem.W.keepIn K (.ref g_RI) = true)
    (lC_RI : K.lookup c_RI = some ⟨clRI, ddRI, .fields vsRI, svRI⟩)
    (vC_RI : (vsRI[11]? : Option Value) = some (.ref P_RI))
    (tT_RI : h.get? P_RI = some { cls := .none, data := .fields #[] })
    (nP_RI : K.lookup P_RI = none)
    (hC_RI : PySem.W.codeHdIn K c_RI P_RI = true)
    (aCb : PySem.W.nsIn K mainGlobals "combinations" = some (some (.type "itertools.combinations")))
    (z_abs : PySem.W.nsIn K mainGlobals "abs" = some none)
    (z_all : PySem.W.nsIn K mainGlobals "all" = some none)
    (z_any : PySem.W.nsIn K mainGlobals "any" = some none)
    (z_bool : PySem.W.nsIn K mainGlobals "bool" = some none)
    (z_dict : PySem.W.nsIn K mainGlobals "dict" = some none)
    (z_enumerate : PySem.W.nsIn K mainGlobals "enumerate" = some none)
    (z_int : PySem.W.nsIn K mainGlobals "int" = some none)
    (z_isinstance : PySem.W.nsIn K mainGlobals "isinstance" = some none)
    (z_len : PySem.W.nsIn K mainGlobals "len" = some none)
    (z_list : PySem.W.nsIn K mainGlobals "list" = some none)
    (z_max : PySem.W.nsIn K mainGlobals "max" = some none)
    (z_min : PySem.W.nsIn K mainGlobals "min" = some none)
    (z_range : PySem.W.nsIn K mainGlobals "range" = some none)
    (z_repr : PySem.W.nsIn K mainGlobals "repr" = some none)
    (z_set : PySem.W.nsIn K mainGlobals "set" = some none)
    (z_sorted : PySem.W.nsIn K mainGlobals "sorted" = some none)
    (z_str : PySem.W.nsIn K mainGlobals "str" = some none)
    (z_tuple : PySem.W.nsIn K mainGlobals "tuple" = some none)
    (z_zip : PySem.W.nsIn K mainGlobals "zip" = some none)
    (gL : PySem.W.nsIn K mainGlobals "LETTERS" = some (some (.int 8 tkL)))
    : Gt.LawT l w K 11 63 "script" mg fa h := by
  have e := hfa.symm.trans (PySem.W.mg_of X G a38)
  cases e
  have F_is_integer := fun_mk (st := s_is_integer) l0 c0 k0
  have b_is_integer := F_is_integer.binds (ps := ["value"]) fun _ _ _ _ _ _ us hl => match us, hl with | [_], _ => rfl
  have m_is_integer := PySem.W.mg_of X G a0
  have F_is_number := fun_mk (st := s_is_number) l1 c1 k1
  have b_is_number := F_is_number.binds (ps := ["value"]) fun _ _ _ _ _ _ us hl => match us, hl with | [_], _ => rfl
  have m_is_number := PySem.W.mg_of X G a1
  have F_is_sequence := fun_mk (st := s_is_sequence) l2 c2 k2
  have b_is_sequence := F_is_sequence.binds (ps := ["value"]) fun _ _ _ _ _ _ us hl => match us, hl with | [_], _ => rfl
  have m_is_sequence := PySem.W.mg_of X G a2
  have F_is_name := fun_mk (st := s_is_name) l3 c3 k3
  have b_is_name := F_is_name.binds (ps := ["value"]) fun _ _ _ _ _ _ us hl => match us, hl with | [_], _ => rfl
  have m_is_name := PySem.W.mg_of X G a3
  have F_as_lot := fun_mk (st := s_as_lot) l4 c4 k4
  have b_as_lot := F_as_lot.binds (ps := ["values"]) fun _ _ _ _ _ _ us hl => match us, hl with | [_], _ => rfl
  have m_as_lot := PySem.W.mg_of X G a4
  have F_thin_tale := fun_mk (st := s_thin_tale) l5 c5 k5
  have b_thin_tale := F_thin_tale.binds (ps := ["tale", "names"]) fun _ _ _ _ _ _ us hl => match us, hl with | [_, _], _ => rfl
  have m_thin_tale := PySem.W.mg_of X G a5
  have F_thin_lot := fun_mk (st := s_thin_lot) l6 c6 k6
  have b_thin_lot := F_thin_lot.binds (ps := ["lot", "names"]) fun _ _ _ _ _ _ us hl => match us, hl with | [_, _], _ => rfl
  have m_thin_lot := PySem.W.mg_of X G a6
  have F_is_lot := fun_mk (st := s_is_lot) l7 c7 k7
  have b_is_lot := F_is_lot.binds (ps := ["value"]) fun _ _ _ _ _ _ us hl => match us, hl with | [_], _ => rfl
  have m_is_lot := PySem.W.mg_of X G a7
  have F_is_name_lot := fun_mk (st := s_is_name_lot) l8 c8 k8
  have b_is_name_lot := F_is_name_lot.binds (ps := ["value"]) fun _ _ _ _ _ _ us hl => match us, hl with | [_], _ => rfl
  have m_is_name_lot := PySem.W.mg_of X G a8
  have F_is_tale := fun_mk (st := s_is_tale) l9 c9 k9
  have b_is_tale := F_is_tale.binds (ps := ["value"]) fun _ _ _ _ _ _ us hl => match us, hl with | [_], _ => rfl
  have m_is_tale := PySem.W.mg_of X G a9
  have F_need_tales := fun_mk (st := s_need_tales) l10 c10 k10
  have m_need_tales := PySem.W.mg_of X G a10
  have F_need_told := fun_mk (st := s_need_told) l11 c11 k11
  have b_need_told := F_need_told.binds (ps := ["tales"]) fun _ _ _ _ _ _ us hl => match us, hl with | [_], _ => rfl
  have m_need_told := PySem.W.mg_of X G a11
  have F_need_bells := fun_mk (st := s_need_bells) l12 c12 k12
  have b_need_bells := F_need_bells.binds (ps := ["bells"]) fun _ _ _ _ _ _ us hl => match us, hl with | [_], _ => rfl
  have m_need_bells := PySem.W.mg_of X G a12
  have F_need_naming := fun_mk (st := s_need_naming) l13 c13 k13
  have b_need_naming := F_need_naming.binds (ps := ["bells", "naming"]) fun _ _ _ _ _ _ us hl => match us, hl with | [_, _], _ => rfl
  have m_need_naming := PySem.W.mg_of X G a13
  have F_plain_naming := fun_mk (st := s_plain_naming) l14 c14 k14
  have b_plain_naming := F_plain_naming.binds (ps := ["naming"]) fun _ _ _ _ _ _ us hl => match us, hl with | [_], _ => rfl
  have m_plain_naming := PySem.W.mg_of X G a14
  have F_is_coarser := fun_mk (st := s_is_coarser) l15 c15 k15
  have b_is_coarser := F_is_coarser.binds (ps := ["naming", "other"]) fun _ _ _ _ _ _ us hl => match us, hl with | [_, _], _ => rfl
  have m_is_coarser := PySem.W.mg_of X G a15
  have F_heard_tones := fun_mk (st := s_heard_tones) l16 c16 k16
  have b_heard_tones := F_heard_tones.binds (ps := ["lots", "bells", "naming"]) fun _ _ _ _ _ _ us hl => match us, hl with | [_, _, _], _ => rfl
  have m_heard_tones := PySem.W.mg_of X G a16
  have F_tones_in := fun_mk (st := s_tones_in) l17 c17 k17
  have b_tones_in := F_tones_in.binds (ps := ["lots", "bells", "naming"]) fun _ _ _ _ _ _ us hl => match us, hl with | [_, _, _], _ => rfl
  have m_tones_in := PySem.W.mg_of X G a17
  have F_need_all := fun_mk (st := s_need_all) l18 c18 k18
  have b_need_all := F_need_all.binds (ps := ["tales", "bells"]) fun _ _ _ _ _ _ us hl => match us, hl with | [_, _], _ => rfl
  have m_need_all := PySem.W.mg_of X G a18
  have F_unheard_pairs := fun_mk (st := s_unheard_pairs) l19 c19 k19
  have b_unheard_pairs := F_unheard_pairs.binds (ps := ["tales", "bells", "naming"]) fun _ _ _ _ _ _ us hl => match us, hl with | [_, _, _], _ => rfl
  have m_unheard_pairs := PySem.W.mg_of X G a19
  have F_unheard_among := fun_mk (st := s_unheard_among) l20 c20 k20
  have b_unheard_among := F_unheard_among.binds (ps := ["tales", "bells", "naming"]) fun _ _ _ _ _ _ us hl => match us, hl with | [_, _, _], _ => rfl
  have m_unheard_among := PySem.W.mg_of X G a20
  have F_plain_namings := fun_mk (st := s_plain_namings) l21 c21 k21
  have b_plain_namings := F_plain_namings.binds (ps := ["many"]) fun _ _ _ _ _ _ us hl => match us, hl with | [_], _ => rfl
  have m_plain_namings := PySem.W.mg_of X G a21
  have F_telling_namings := fun_mk (st := s_telling_namings) l22 c22 k22
  have b_telling_namings := F_telling_namings.binds (ps := ["tales", "bells"]) fun _ _ _ _ _ _ us hl => match us, hl with | [_, _], _ => rfl
  have m_telling_namings := PySem.W.mg_of X G a22
  have F_coarsest_namings := fun_mk (st := s_coarsest_namings) l23 c23 k23
  have b_coarsest_namings := F_coarsest_namings.binds (ps := ["tales", "bells"]) fun _ _ _ _ _ _ us hl => match us, hl with | [_, _], _ => rfl
  have m_coarsest_namings := PySem.W.mg_of X G a23
  have F_finest_deaf := fun_mk (st := s_finest_deaf) l24 c24 k24
  have b_finest_deaf := F_finest_deaf.binds (ps := ["tales", "bells"]) fun _ _ _ _ _ _ us hl => match us, hl with | [_, _], _ => rfl
  have m_finest_deaf := PySem.W.mg_of X G a24
  have F_fewest_tones := fun_mk (st := s_fewest_tones) l25 c25 k25
  have b_fewest_tones := F_fewest_tones.binds (ps := ["tales", "bells"]) fun _ _ _ _ _ _ us hl => match us, hl with | [_, _], _ => rfl
  have m_fewest_tones := PySem.W.mg_of X G a25
  have F__law_box := fun_mk (st := s__law_box) l26 c26 k26
  have b__law_box := F__law_box.binds (ps := ["script", "k"]) fun _ _ _ _ _ _ us hl => match us, hl with | [_, _], _ => rfl
  have m__law_box := PySem.W.mg_of X G a26
  have F__law_take := fun_mk (st := s__law_take) l27 c27 k27
  have b__law_take := F__law_take.binds (ps := ["box", "many"]) fun _ _ _ _ _ _ us hl => match us, hl with | [_, _], _ => rfl
  have m__law_take := PySem.W.mg_of X G a27
  have F__law_pick := fun_mk (st := s__law_pick) l28 c28 k28
  have b__law_pick := F__law_pick.binds (ps := ["box", "some"]) fun _ _ _ _ _ _ us hl => match us, hl with | [_, _], _ => rfl
  have m__law_pick := PySem.W.mg_of X G a28
  have F__law_names := fun_mk (st := s__law_names) l29 c29 k29
  have b__law_names := F__law_names.binds (ps := ["box", "many"]) fun _ _ _ _ _ _ us hl => match us, hl with | [_, _], _ => rfl
  have m__law_names := PySem.W.mg_of X G a29
  have F__law_tale := fun_mk (st := s__law_tale) l30 c30 k30
  have b__law_tale := F__law_tale.binds (ps := ["box", "names", "most"]) fun _ _ _ _ _ _ us hl => match us, hl with | [_, _, _], _ => rfl
  have m__law_tale := PySem.W.mg_of X G a30
  have F__law_changed := fun_mk (st := s__law_changed) l31 c31 k31
  have b__law_changed := F__law_changed.binds (ps := ["box", "tale", "names"]) fun _ _ _ _ _ _ us hl => match us, hl with | [_, _, _], _ => rfl
  have m__law_changed := PySem.W.mg_of X G a31
  have F__law_tones := fun_mk (st := s__law_tones) l32 c32 k32
  have b__law_tones := F__law_tones.binds (ps := ["tale", "bells", "naming"]) fun _ _ _ _ _ _ us hl => match us, hl with | [_, _, _], _ => rfl
  have m__law_tones := PySem.W.mg_of X G a32
  have F__law_left := fun_mk (st := s__law_left) l33 c33 k33
  have b__law_left := F__law_left.binds (ps := ["tales", "bells", "naming"]) fun _ _ _ _ _ _ us hl => match us, hl with | [_, _, _], _ => rfl
  have m__law_left := PySem.W.mg_of X G a33
  have F__law_plain := fun_mk (st := s__law_plain) l34 c34 k34
  have b__law_plain := F__law_plain.binds (ps := ["naming"]) fun _ _ _ _ _ _ us hl => match us, hl with | [_], _ => rfl
  have m__law_plain := PySem.W.mg_of X G a34
  have F__law_all := fun_mk (st := s__law_all) l35 c35 k35
  have b__law_all := F__law_all.binds (ps := ["many"]) fun _ _ _ _ _ _ us hl => match us, hl with | [_], _ => rfl
  have m__law_all := PySem.W.mg_of X G a35
  have F__law_coarser := fun_mk (st := s__law_coarser) l36 c36 k36
  have b__law_coarser := F__law_coarser.binds (ps := ["naming", "other"]) fun _ _ _ _ _ _ us hl => match us, hl with | [_, _], _ => rfl
  have m__law_coarser := PySem.W.mg_of X G a36
  have F__law_word := fun_mk (st := s__law_word) l37 c37 k37
  have b__law_word := F__law_word.binds (ps := ["work"]) fun _ _ _ _ _ _ us hl => match us, hl with | [_], _ => rfl
  have m__law_word := PySem.W.mg_of X G a37
  have F_law := fun_mk (st := s_law) l38 c38 k38
  have m_law := PySem.W.mg_of X G a38
  have n_abs := PySem.W.mg_none_of X G z_abs
  have n_all := PySem.W.mg_none_of X G z_all
  have n_any := PySem.W.mg_none_of X G z_any
  have n_bool := PySem.W.mg_none_of X G z_bool
  have n_dict := PySem.W.mg_none_of X G z_dict
  have n_enumerate := PySem.W.mg_none_of X G z_enumerate
  have n_int := PySem.W.mg_none_of X G z_int
  have n_isinstance := PySem.W.mg_none_of X G z_isinstance
  have n_len := PySem.W.mg_none_of X G z_len
  have n_list := PySem.W.mg_none_of X G z_list
  have n_max := PySem.W.mg_none_of X G z_max
  have n_min := PySem.W.mg_none_of X G z_min
  have n_range := PySem.W.mg_none_of X G z_range
  have n_repr := PySem.W.mg_none_of X G z_repr
  have n_set := PySem.W.mg_none_of X G z_set
  have n_sorted := PySem.W.mg_none_of X G z_sorted
  have n_str := PySem.W.mg_none_of X G z_str
  have n_tuple := PySem.W.mg_none_of X G z_tuple
  have n_zip := PySem.W.mg_none_of X G z_zip
  have g_L := PySem.W.mg_of X G gL
  have T_c : Xb.ErrC K mg "InvalidHeard" C fI_c := { gC := PySem.W.mg_of X G aC_c, cls := ⟨nm_c, q_c, N_c, bs_c, _, sn_c, sub_c, ab_c, col_c, dd_c, m0_c, m1_c, m2_c, m3_c, m5_c, xL_c, rfl⟩, sa := sa_c, ga := ga_c, gg := gg_c, noN := nb_c, iC := aI_c, tC := tI_c, kC := kC_c, exC := eC_c, tyC := tC_c, hdC := hC_c, te := PySem.W.exm_ref eC_c hC_c tC_c sC_c, fn := ⟨_, _, _, _, _, _, _, _, _, _, _, _, _, _, _, lI_c, cI_c⟩ }
  have T_d : Xw.ErrC K mg "InvalidSize" D fI_d := { gC := PySem.W.mg_of X G aC_d, cls := ⟨nm_d, q_d, N_d, bs_d, _, sn_d, sub_d, ab_d, col_d, dd_d, m0_d, m1_d, m2_d, m3_d, m5_d, xL_d, rfl⟩, sa := sa_d, ga := ga_d, gg := gg_d, noN := nb_d, iC := aI_d, tC := tI_d, kC := kC_d, exC := eC_d, tyC := tC_d, hdC := hC_d, te := PySem.W.exm_ref eC_d hC_d tC_d sC_d, fn := ⟨_, _, _, _, _, _, _, _, _, _, _, _, _, _, _, lI_d, cI_d⟩ }
  have mM_RI := PySem.W.mg_of X G aM_RI
  have eRC : PySem.W.exmOne K (.ref D) (.ref C) = some false := PySem.W.exm_ref eC_c hC_c tC_c sDC
  have n_comb := PySem.W.mg_of X G aCb
  refine ⟨PySem.W.fnOf "law" "law" (defArgs s_law) (defBody s_law) (defScope s_law) .none kV38 dc38 pm38 an38 cd38 ct38, [(c_RI, P_RI)], spLaw K P_RI, fun p hp => ?_, fun p hp => ?_, fun p hp => ?_, fun s v => .of_eq rfl, fun H a ns hl hT hS => ⟨a, ns, rfl, hS, hl, hT (c_RI, P_RI) (List.mem_singleton.mpr rfl), fun _ => rfl⟩, fun base _ _ hTB => ?_⟩
  · rw [List.mem_singleton.mp hp]; exact tT_RI
  · rw [List.mem_singleton.mp hp]; exact nP_RI
  · rw [List.mem_singleton.mp hp]; exact hC_RI
  have TB_RI := hTB (c_RI, P_RI) (List.mem_singleton.mpr rfl)
  have G_is_integer := ok_isint (P := l.prog) (w := w) (mg := mg) (base := base) F_is_integer n_bool n_int n_isinstance
  have C_is_integer : Hb.Cl l.prog w K mg base "is_integer" ["value"] [] 1 (spIsInt K) := ⟨_, _, [], G_is_integer, m_is_integer, k0, b_is_integer, .nil⟩
  have G_is_number := ok_isnum (P := l.prog) (w := w) (mg := mg) (base := base) F_is_number C_is_integer
  have C_is_number : Hb.Cl l.prog w K mg base "is_number" ["value"] [] 2 (spIsNum K) := ⟨_, _, [], G_is_number, m_is_number, k1, b_is_number, .nil⟩
  have G_is_sequence := ok_seq (P := l.prog) (w := w) (mg := mg) (base := base) F_is_sequence n_isinstance n_list n_tuple
  have C_is_sequence : Hb.Cl l.prog w K mg base "is_sequence" ["value"] [] 1 (spSeq K) := ⟨_, _, [], G_is_sequence, m_is_sequence, k2, b_is_sequence, .nil⟩
  have G_is_name := ok_is_name (P := l.prog) (w := w) (mg := mg) (base := base) F_is_name g_L n_isinstance n_len n_str
  have C_is_name : Hb.Cl l.prog w K mg base "is_name" ["value"] [] 1 (spIsName K) := ⟨_, _, [], G_is_name, m_is_name, k3, b_is_name, .nil⟩
  have G_as_lot := ok_as_lot (P := l.prog) (w := w) (mg := mg) (base := base) F_as_lot n_set n_sorted n_tuple
  have C_as_lot : Hb.Cl l.prog w K mg base "as_lot" ["values"] [] 1 (spLot K) := ⟨_, _, [], G_as_lot, m_as_lot, k4, b_as_lot, .nil⟩
  have G_thin_lot := ok_thin_lot (P := l.prog) (w := w) (mg := mg) (base := base) F_thin_lot n_tuple
  have C_thin_lot : Hb.Cl l.prog w K mg base "thin_lot" ["lot", "names"] [] 1 (spThin K) := ⟨_, _, [], G_thin_lot, m_thin_lot, k6, b_thin_lot, .nil⟩
  have G_thin_tale := ok_thin_tale (P := l.prog) (w := w) (mg := mg) (base := base) F_thin_tale C_thin_lot n_tuple
  have C_thin_tale : Hb.Cl l.prog w K mg base "thin_tale" ["tale", "names"] [] 2 (spThinT K) := ⟨_, _, [], G_thin_tale, m_thin_tale, k5, b_thin_tale, .nil⟩
  have G_is_lot := ok_is_lot (P := l.prog) (w := w) (mg := mg) (base := base) F_is_lot C_is_name n_all n_isinstance n_len n_tuple n_zip
  have C_is_lot : Hb.Cl l.prog w K mg base "is_lot" ["value"] [] 2 (spIsLot K) := ⟨_, _, [], G_is_lot, m_is_lot, k7, b_is_lot, .nil⟩
  have G_is_name_lot := ok_nmlot (P := l.prog) (w := w) (mg := mg) (base := base) F_is_name_lot C_is_lot n_isinstance n_len n_tuple
  have C_is_name_lot : Hb.Cl l.prog w K mg base "is_name_lot" ["value"] [] 3 (spNmLot K) := ⟨_, _, [], G_is_name_lot, m_is_name_lot, k8, b_is_name_lot, .nil⟩
  have G_is_tale := ok_is_tale (P := l.prog) (w := w) (mg := mg) (base := base) F_is_tale C_is_lot n_all n_isinstance n_tuple
  have C_is_tale : Hb.Cl l.prog w K mg base "is_tale" ["value"] [] 3 (spIsTale K) := ⟨_, _, [], G_is_tale, m_is_tale, k9, b_is_tale, .nil⟩
  have G_plain_naming := ok_plain (P := l.prog) (w := w) (mg := mg) (base := base) F_plain_naming n_len n_tuple
  have C_plain_naming : Hb.Cl l.prog w K mg base "plain_naming" ["naming"] [] 1 (spPlain K) := ⟨_, _, [], G_plain_naming, m_plain_naming, k14, b_plain_naming, .nil⟩
  have G_is_coarser := ok_coarse (P := l.prog) (w := w) (mg := mg) (base := base) F_is_coarser n_len n_zip
  have C_is_coarser : Hb.Cl l.prog w K mg base "is_coarser" ["naming", "other"] [] 1 (spCoarse K) := ⟨_, _, [], G_is_coarser, m_is_coarser, k15, b_is_coarser, .nil⟩
  have G_tones_in := ok_tones (P := l.prog) (w := w) (mg := mg) (base := base) F_tones_in C_as_lot n_dict n_tuple n_zip
  have C_tones_in : Hb.Cl l.prog w K mg base "tones_in" ["lots", "bells", "naming"] [] 2 (spTones K) := ⟨_, _, [], G_tones_in, m_tones_in, k17, b_tones_in, .nil⟩
  have G_unheard_among := ok_ua (P := l.prog) (w := w) (mg := mg) (base := base) F_unheard_among C_thin_tale C_tones_in n_comb n_len n_list n_range n_tuple
  have C_unheard_among : Hb.Cl l.prog w K mg base "unheard_among" ["tales", "bells", "naming"] [] 3 (spUA K) := ⟨_, _, [], G_unheard_among, m_unheard_among, k20, b_unheard_among, .nil⟩
  have G_plain_namings := ok_nams (P := l.prog) (w := w) (mg := mg) (base := base) F_plain_namings n_range n_max
  have C_plain_namings : Hb.Cl l.prog w K mg base "plain_namings" ["many"] [] 1 (spNams K) := ⟨_, _, [], G_plain_namings, m_plain_namings, k21, b_plain_namings, .nil⟩
  have G_telling_namings := ok_tell (P := l.prog) (w := w) (mg := mg) (base := base) F_telling_namings C_plain_namings C_unheard_among n_len
  have C_telling_namings : Hb.Cl l.prog w K mg base "telling_namings" ["tales", "bells"] [] 4 (spTell K) := ⟨_, _, [], G_telling_namings, m_telling_namings, k22, b_telling_namings, .nil⟩
  have G__law_take := ok_take (P := l.prog) (w := w) (mg := mg) (base := base) F__law_take n_int
  have C__law_take : Hb.Cl l.prog w K mg base "_law_take" ["box", "many"] [] 1 (spTake) := ⟨_, _, [], G__law_take, m__law_take, k27, b__law_take, .nil⟩
  have G__law_box := ok_box (P := l.prog) (w := w) (mg := mg) (base := base) F__law_box n_abs n_int n_len
  have C__law_box : Hb.Cl l.prog w K mg base "_law_box" ["script", "k"] [] 1 (spBox K) := ⟨_, _, [], G__law_box, m__law_box, k26, b__law_box, .nil⟩
  have G__law_pick := ok_pick (P := l.prog) (w := w) (mg := mg) (base := base) F__law_pick C__law_take n_len
  have C__law_pick : Hb.Cl l.prog w K mg base "_law_pick" ["box", "some"] [] 2 (spPick K) := ⟨_, _, [], G__law_pick, m__law_pick, k28, b__law_pick, .nil⟩
  have G__law_names := ok_names (P := l.prog) (w := w) (mg := mg) (base := base) F__law_names C__law_pick C__law_take n_int n_range n_sorted
  have C__law_names : Hb.Cl l.prog w K mg base "_law_names" ["box", "many"] [] 3 (spNames) := ⟨_, _, [], G__law_names, m__law_names, k29, b__law_names, .nil⟩
  have G__law_tale := ok_tale (P := l.prog) (w := w) (mg := mg) (base := base) F__law_tale C__law_pick C__law_take n_range n_tuple
  have C__law_tale : Hb.Cl l.prog w K mg base "_law_tale" ["box", "names", "most"] [] 3 (spTale) := ⟨_, _, [], G__law_tale, m__law_tale, k30, b__law_tale, .nil⟩
  have G__law_changed := ok_changed (P := l.prog) (w := w) (mg := mg) (base := base) F__law_changed C__law_pick C__law_take n_len n_list n_max n_range n_set n_sorted n_tuple
  have C__law_changed : Hb.Cl l.prog w K mg base "_law_changed" ["box", "tale", "names"] [] 3 (spChanged K) := ⟨_, _, [], G__law_changed, m__law_changed, k31, b__law_changed, .nil⟩
  have G__law_tones := ok_ltones (P := l.prog) (w := w) (mg := mg) (base := base) F__law_tones n_enumerate n_sorted n_tuple
  have C__law_tones : Hb.Cl l.prog w K mg base "_law_tones" ["tale", "bells", "naming"] [] 1 (spLTones K) := ⟨_, _, [], G__law_tones, m__law_tones, k32, b__law_tones, .nil⟩
  have G__law_left := ok_lleft (P := l.prog) (w := w) (mg := mg) (base := base) F__law_left C__law_tones n_len n_range n_tuple
  have C__law_left : Hb.Cl l.prog w K mg base "_law_left" ["tales", "bells", "naming"] [] 2 (spLLeft K) := ⟨_, _, [], G__law_left, m__law_left, k33, b__law_left, .nil⟩
  have G__law_plain := ok_lplain (P := l.prog) (w := w) (mg := mg) (base := base) F__law_plain n_tuple
  have C__law_plain : Hb.Cl l.prog w K mg base "_law_plain" ["naming"] [] 1 (spPlain K) := ⟨_, _, [], G__law_plain, m__law_plain, k34, b__law_plain, .nil⟩
  have G__law_all := ok_lall (P := l.prog) (w := w) (mg := mg) (base := base) F__law_all C__law_plain n_range
  have C__law_all : Hb.Cl l.prog w K mg base "_law_all" ["many"] [] 2 (spNams K) := ⟨_, _, [], G__law_all, m__law_all, k35, b__law_all, .nil⟩
  have G__law_coarser := ok_lcoarse (P := l.prog) (w := w) (mg := mg) (base := base) F__law_coarser n_len n_range
  have C__law_coarser : Hb.Cl l.prog w K mg base "_law_coarser" ["naming", "other"] [] 1 (spLCoarse K) := ⟨_, _, [], G__law_coarser, m__law_coarser, k36, b__law_coarser, .nil⟩
  have G_need := ok_need (P := l.prog) (w := w) (mg := mg) (base := base) F_need_tales T_c C_is_tale n_enumerate
  have G_need_told := ok_told (P := l.prog) (w := w) (mg := mg) (base := base) F_need_told G_need m_need_tales k10 T_c C_is_sequence
  have C_need_told : Cx_ l.prog w K mg base "need_told" ["tales"] 5 (spNeedT K C) := ⟨_, _, G_need_told, m_need_told, k11, b_need_told⟩
  have G_need_bells := ok_bellsok (P := l.prog) (w := w) (mg := mg) (base := base) F_need_bells T_d C_is_name_lot
  have C_need_bells : Cx_ l.prog w K mg base "need_bells" ["bells"] 4 (spBellsD K D) := ⟨_, _, G_need_bells, m_need_bells, k12, b_need_bells⟩
  have G_need_naming := ok_naming (P := l.prog) (w := w) (mg := mg) (base := base) F_need_naming T_d C_is_number n_all n_isinstance n_len n_tuple
  have C_need_naming : Cx_ l.prog w K mg base "need_naming" ["bells", "naming"] 3 (spNamD K D) := ⟨_, _, G_need_naming, m_need_naming, k13, b_need_naming⟩
  have G_need_all := ok_all (C := C) (D := D) (P := l.prog) (w := w) (mg := mg) (base := base) F_need_all C_need_told C_need_bells
  have C_need_all : Cx_ l.prog w K mg base "need_all" ["tales", "bells"] 6 (spAll K C D) := ⟨_, _, G_need_all, m_need_all, k18, b_need_all⟩
  have G_heard_tones := ok_heardt (C := C) (D := D) (P := l.prog) (w := w) (mg := mg) (base := base) F_heard_tones G_need m_need_tales k10 C_need_bells C_need_naming C_tones_in
  have C_heard_tones : Cx_ l.prog w K mg base "heard_tones" ["lots", "bells", "naming"] 5 (spHeardD K C D) := ⟨_, _, G_heard_tones, m_heard_tones, k16, b_heard_tones⟩
  have G_unheard_pairs := ok_upairs (P := l.prog) (w := w) (mg := mg) (base := base) F_unheard_pairs C_need_all C_need_naming C_unheard_among
  have C_unheard_pairs : Cx_ l.prog w K mg base "unheard_pairs" ["tales", "bells", "naming"] 7 (spUPairs K C D) := ⟨_, _, G_unheard_pairs, m_unheard_pairs, k19, b_unheard_pairs⟩
  have G_coarsest_namings := ok_co (P := l.prog) (w := w) (mg := mg) (base := base) F_coarsest_namings C_need_all C_telling_namings C_is_coarser n_any n_tuple
  have C_coarsest_namings : Cx_ l.prog w K mg base "coarsest_namings" ["tales", "bells"] 7 (spWish2 K C D coF) := ⟨_, _, G_coarsest_namings, m_coarsest_namings, k23, b_coarsest_namings⟩
  have G_finest_deaf := ok_fi (P := l.prog) (w := w) (mg := mg) (base := base) F_finest_deaf C_need_all C_plain_namings C_unheard_among C_is_coarser n_any n_len n_tuple
  have C_finest_deaf : Cx_ l.prog w K mg base "finest_deaf" ["tales", "bells"] 7 (spWish2 K C D fiF) := ⟨_, _, G_finest_deaf, m_finest_deaf, k24, b_finest_deaf⟩
  have G_fewest_tones := ok_few (P := l.prog) (w := w) (mg := mg) (base := base) F_fewest_tones C_need_all C_telling_namings n_max n_min
  have C_fewest_tones : Cx_ l.prog w K mg base "fewest_tones" ["tales", "bells"] 7 (spFew K C D) := ⟨_, _, G_fewest_tones, m_fewest_tones, k25, b_fewest_tones⟩
  have R_0 : DfX l.prog w K mg base 7 f_coarsest_namings (spRef2 K C D) := .of G_coarsest_namings k23 b_coarsest_namings (by decide) fun vs H Q E z => ref_wish z
  have R_1 : DfX l.prog w K mg base 7 f_finest_deaf (spRef2 K C D) := .of G_finest_deaf k24 b_finest_deaf (by decide) fun vs H Q E z => ref_wish z
  have R_2 : DfX l.prog w K mg base 7 f_fewest_tones (spRef2 K C D) := .of G_fewest_tones k25 b_fewest_tones (by decide) fun vs H Q E z => ref_few z
  have G_RI := ok_refus (P := l.prog) (w := w) (mg := mg) (base := base) lM_RI cM_RI TB_RI F__law_word b__law_word m__law_word T_c T_d eRC m_coarsest_namings m_finest_deaf m_fewest_tones R_0 R_1 R_2 C_unheard_pairs C_heard_tones C__law_pick C__law_take n_tuple n_list n_len n_repr
  have F_RI := fun_mk (st := s__law_refused_right) lM_RI cM_RI kM_RI
  have b_RI := F_RI.binds (ps := ["box", "tales", "bells", "naming"]) fun _ _ _ _ _ _ us hl => match us, hl with | [_, _, _, _], _ => rfl
  have C__law_refused_right : Hb.Cl l.prog w K mg base "_law_refused_right" ["box", "tales", "bells", "naming"] [] 10 (spRefus P_RI) := ⟨_, _, [], G_RI, mM_RI, kM_RI, b_RI, .nil⟩
  have BK_coarsest_namings := Kw.kb_rev (ps := ["tales", "bells"]) (ks := ["bells", "tales"]) F_coarsest_namings fun kV doc pm an cdv ct ws h => match ws, h with | [_, _], _ => rfl
  have K_coarsest_namings : CkX l.prog w K mg base "coarsest_namings" ["tales", "bells"] ["bells", "tales"] (fun _ zs => zs.reverse) 7 (spWish2 K C D coF) := ⟨_, _, _, G_coarsest_namings, m_coarsest_namings, k23, BK_coarsest_namings⟩
  have BK_fewest_tones := Kw.kb_rev (ps := ["tales", "bells"]) (ks := ["bells", "tales"]) F_fewest_tones fun kV doc pm an cdv ct ws h => match ws, h with | [_, _], _ => rfl
  have K_fewest_tones : CkX l.prog w K mg base "fewest_tones" ["tales", "bells"] ["bells", "tales"] (fun _ zs => zs.reverse) 7 (spFew K C D) := ⟨_, _, _, G_fewest_tones, m_fewest_tones, k25, BK_fewest_tones⟩
  have BK_finest_deaf := Kw.kb_rev (ps := ["tales", "bells"]) (ks := ["bells", "tales"]) F_finest_deaf fun kV doc pm an cdv ct ws h => match ws, h with | [_, _], _ => rfl
  have K_finest_deaf : CkX l.prog w K mg base "finest_deaf" ["tales", "bells"] ["bells", "tales"] (fun _ zs => zs.reverse) 7 (spWish2 K C D fiF) := ⟨_, _, _, G_finest_deaf, m_finest_deaf, k24, BK_finest_deaf⟩
  have BK_heard_tones := Kw.kb_rev (ps := ["lots", "bells", "naming"]) (ks := ["naming", "bells", "lots"]) F_heard_tones fun kV doc pm an cdv ct ws h => match ws, h with | [_, _, _], _ => rfl
  have K_heard_tones : CkX l.prog w K mg base "heard_tones" ["lots", "bells", "naming"] ["naming", "bells", "lots"] (fun _ zs => zs.reverse) 5 (spHeardD K C D) := ⟨_, _, _, G_heard_tones, m_heard_tones, k16, BK_heard_tones⟩
  have BK_unheard_pairs := Kw.kb_rev (ps := ["tales", "bells", "naming"]) (ks := ["naming", "bells", "tales"]) F_unheard_pairs fun kV doc pm an cdv ct ws h => match ws, h with | [_, _, _], _ => rfl
  have K_unheard_pairs : CkX l.prog w K mg base "unheard_pairs" ["tales", "bells", "naming"] ["naming", "bells", "tales"] (fun _ zs => zs.reverse) 7 (spUPairs K C D) := ⟨_, _, _, G_unheard_pairs, m_unheard_pairs, k19, BK_unheard_pairs⟩
  have BK_is_coarser := Kw.kb_rev (ps := ["naming", "other"]) (ks := ["other", "naming"]) F_is_coarser fun kV doc pm an cdv ct ws h => match ws, h with | [_, _], _ => rfl
  have K_is_coarser : ClK l.prog w K mg base "is_coarser" ["naming", "other"] 0 ["other", "naming"] (fun _ zs => zs.reverse) 1 (spCoarse K) := ⟨_, _, _, G_is_coarser, m_is_coarser, k15, BK_is_coarser⟩
  have BK_plain_naming := Kw.kb_rev (ps := ["naming"]) (ks := ["naming"]) F_plain_naming fun kV doc pm an cdv ct ws h => match ws, h with | [_], _ => rfl
  have K_plain_naming : ClK l.prog w K mg base "plain_naming" ["naming"] 0 ["naming"] (fun _ zs => zs.reverse) 1 (spPlain K) := ⟨_, _, _, G_plain_naming, m_plain_naming, k14, BK_plain_naming⟩
  exact ok_law (P := l.prog) (w := w) (mg := mg) (base := base) F_law C__law_all C__law_box C__law_changed C__law_coarser C__law_left C__law_names C__law_pick C__law_plain C__law_refused_right C__law_take C__law_tale C__law_tones C_coarsest_namings C_fewest_tones C_finest_deaf C_heard_tones C_is_coarser C_plain_naming C_unheard_pairs K_coarsest_namings K_fewest_tones K_finest_deaf K_heard_tones K_unheard_pairs K_is_coarser K_plain_naming n_len n_list n_max n_min n_range n_repr n_sorted n_tuple
end K6
open PySem PySem.W PyProof.Rows
set_option maxRecDepth 100000 in
set_option maxHeartbeats 0 in
theorem PySem.Challenge.cw_curvebells_k92_whole_namings_coarse_and_holds : PySem.Challenge.rw_curvebells_k92_whole_namings_coarse_and.Holds := by
  w_on; o_law; k_head; (case hw => w_witness2)
  k_fill
  refine Gt.walk_tabs (l := PySem.Challenge.rw_curvebells_k92_whole_namings_coarse_and) (n := 63) (k := 11) (x := "script") rfl (by decide) rfl ⟨rfl, by decide, by decide⟩ (fun w h Y => PySem.W.km_in_of Y) ?F
  case F =>
    intro w mg fa h Y KX G hmg
    refine' K6.all_mk KX G hmg ?aB ?aC_c ?xL_c ?sa_c ?ga_c ?gg_c ?nb_c ?aI_c ?tI_c ?lI_c ?cI_c ?kC_c ?eC_c ?tC_c ?hC_c ?sC_c ?aC_d ?xL_d ?sa_d ?ga_d ?gg_d ?nb_d ?aI_d ?tI_d ?lI_d ?cI_d ?kC_d ?eC_d ?tC_d ?hC_d ?sC_d ?sDC ?a0 ?l0 ?c0 ?k0 ?a1 ?l1 ?c1 ?k1 ?a2 ?l2 ?c2 ?k2 ?a3 ?l3 ?c3 ?k3 ?a4 ?l4 ?c4 ?k4 ?a5 ?l5 ?c5 ?k5 ?a6 ?l6 ?c6 ?k6 ?a7 ?l7 ?c7 ?k7 ?a8 ?l8 ?c8 ?k8 ?a9 ?l9 ?c9 ?k9 ?a10 ?l10 ?c10 ?k10 ?a11 ?l11 ?c11 ?k11 ?a12 ?l12 ?c12 ?k12 ?a13 ?l13 ?c13 ?k13 ?a14 ?l14 ?c14 ?k14 ?a15 ?l15 ?c15 ?k15 ?a16 ?l16 ?c16 ?k16 ?a17 ?l17 ?c17 ?k17 ?a18 ?l18 ?c18 ?k18 ?a19 ?l19 ?c19 ?k19 ?a20 ?l20 ?c20 ?k20 ?a21 ?l21 ?c21 ?k21 ?a22 ?l22 ?c22 ?k22 ?a23 ?l23 ?c23 ?k23 ?a24 ?l24 ?c24 ?k24 ?a25 ?l25 ?c25 ?k25 ?a26 ?l26 ?c26 ?k26 ?a27 ?l27 ?c27 ?k27 ?a28 ?l28 ?c28 ?k28 ?a29 ?l29 ?c29 ?k29 ?a30 ?l30 ?c30 ?k30 ?a31 ?l31 ?c31 ?k31 ?a32 ?l32 ?c32 ?k32 ?a33 ?l33 ?c33 ?k33 ?a34 ?l34 ?c34 ?k34 ?a35 ?l35 ?c35 ?k35 ?a36 ?l36 ?c36 ?k36 ?a37 ?l37 ?c37 ?k37 ?a38 ?l38 ?c38 ?k38 ?aM_RI ?lM_RI ?cM_RI ?kM_RI ?lC_RI ?vC_RI ?tT_RI ?nP_RI ?hC_RI ?aCb ?z_abs ?z_all ?z_any ?z_bool ?z_dict ?z_enumerate ?z_int ?z_isinstance ?z_len ?z_list ?z_max ?z_min ?z_range ?z_repr ?z_set ?z_sorted ?z_str ?z_tuple ?z_zip ?gL
    (case aB => k_is)
    (case aC_c => k_is)
    (case xL_c => k_is)
    (case sa_c => k_is)
    (case ga_c => k_is)
    (case gg_c => k_is)
    (case nb_c => k_is)
    (case aI_c => k_is)
    (case tI_c => k_is)
    (case lI_c => k_is)
    (case cI_c => k_is)
    (case kC_c => k_is)
    (case eC_c => k_is)
    (case tC_c => k_is)
    (case hC_c => k_is)
    (case sC_c => first | rfl | k_is)
    (case aC_d => k_is)
    (case xL_d => k_is)
    (case sa_d => k_is)
    (case ga_d => k_is)
    (case gg_d => k_is)
    (case nb_d => k_is)
    (case aI_d => k_is)
    (case tI_d => k_is)
    (case lI_d => k_is)
    (case cI_d => k_is)
    (case kC_d => k_is)
    (case eC_d => k_is)
    (case tC_d => k_is)
    (case hC_d => k_is)
    (case sC_d => first | rfl | k_is)
    (case sDC => k_is)
    (case a0 => k_is)
    (case l0 => k_is)
    (case c0 => k_is)
    (case k0 => k_is)
    (case a1 => k_is)
    (case l1 => k_is)
    (case c1 => k_is)
    (case k1 => k_is)
    (case a2 => k_is)
    (case l2 => k_is)
    (case c2 => k_is)
    (case k2 => k_is)
    (case a3 => k_is)
    (case l3 => k_is)
    (case c3 => k_is)
    (case k3 => k_is)
    (case a4 => k_is)
    (case l4 => k_is)
    (case c4 => k_is)
    (case k4 => k_is)
    (case a5 => k_is)
    (case l5 => k_is)
    (case c5 => k_is)
    (case k5 => k_is)
    (case a6 => k_is)
    (case l6 => k_is)
    (case c6 => k_is)
    (case k6 => k_is)
    (case a7 => k_is)
    (case l7 => k_is)
    (case c7 => k_is)
    (case k7 => k_is)
    (case a8 => k_is)
    (case l8 => k_is)
    (case c8 => k_is)
    (case k8 => k_is)
    (case a9 => k_is)
    (case l9 => k_is)
    (case c9 => k_is)
    (case k9 => k_is)
    (case a10 => k_is)
    (case l10 => k_is)
    (case c10 => k_is)
    (case k10 => k_is)
    (case a11 => k_is)
    (case l11 => k_is)
    (case c11 => k_is)
    (case k11 => k_is)
    (case a12 => k_is)
    (case l12 => k_is)
    (case c12 => k_is)
    (case k12 => k_is)
    (case a13 => k_is)
    (case l13 => k_is)
    (case c13 => k_is)
    (case k13 => k_is)
    (case a14 => k_is)
    (case l14 => k_is)
    (case c14 => k_is)
    (case k14 => k_is)
    (case a15 => k_is)
    (case l15 => k_is)
    (case c15 => k_is)
    (case k15 => k_is)
    (case a16 => k_is)
    (case l16 => k_is)
    (case c16 => k_is)
    (case k16 => k_is)
    (case a17 => k_is)
    (case l17 => k_is)
    (case c17 => k_is)
    (case k17 => k_is)
    (case a18 => k_is)
    (case l18 => k_is)
    (case c18 => k_is)
    (case k18 => k_is)
    (case a19 => k_is)
    (case l19 => k_is)
    (case c19 => k_is)
    (case k19 => k_is)
    (case a20 => k_is)
    (case l20 => k_is)
    (case c20 => k_is)
    (case k20 => k_is)
    (case a21 => k_is)
    (case l21 => k_is)
    (case c21 => k_is)
    (case k21 => k_is)
    (case a22 => k_is)
    (case l22 => k_is)
    (case c22 => k_is)
    (case k22 => k_is)
    (case a23 => k_is)
    (case l23 => k_is)
    (case c23 => k_is)
    (case k23 => k_is)
    (case a24 => k_is)
    (case l24 => k_is)
    (case c24 => k_is)
    (case k24 => k_is)
    (case a25 => k_is)
    (case l25 => k_is)
    (case c25 => k_is)
    (case k25 => k_is)
    (case a26 => k_is)
    (case l26 => k_is)
    (case c26 => k_is)
    (case k26 => k_is)
    (case a27 => k_is)
    (case l27 => k_is)
    (case c27 => k_is)
    (case k27 => k_is)
    (case a28 => k_is)
    (case l28 => k_is)
    (case c28 => k_is)
    (case k28 => k_is)
    (case a29 => k_is)
    (case l29 => k_is)
    (case c29 => k_is)
    (case k29 => k_is)
    (case a30 => k_is)
    (case l30 => k_is)
    (case c30 => k_is)
    (case k30 => k_is)
    (case a31 => k_is)
    (case l31 => k_is)
    (case c31 => k_is)
    (case k31 => k_is)
    (case a32 => k_is)
    (case l32 => k_is)
    (case c32 => k_is)
    (case k32 => k_is)
    (case a33 => k_is)
    (case l33 => k_is)
    (case c33 => k_is)
    (case k33 => k_is)
    (case a34 => k_is)
    (case l34 => k_is)
    (case c34 => k_is)
    (case k34 => k_is)
    (case a35 => k_is)
    (case l35 => k_is)
    (case c35 => k_is)
    (case k35 => k_is)
    (case a36 => k_is)
    (case l36 => k_is)
    (case c36 => k_is)
    (case k36 => k_is)
    (case a37 => k_is)
    (case l37 => k_is)
    (case c37 => k_is)
    (case k37 => k_is)
    (case a38 => k_is)
    (case l38 => k_is)
    (case c38 => k_is)
    (case k38 => k_is)
    (case aM_RI => k_is)
    (case lM_RI => k_is)
    (case cM_RI => k_is)
    (case kM_RI => k_is)
    (case lC_RI => k_is)
    (case vC_RI => rfl)
    (case tT_RI => exact PySem.W.km_tabs_of Y _ (by first | k_mem | simp))
    (case nP_RI => first | rfl | kernel_rfl)
    (case hC_RI => first | rfl | kernel_rfl)
    (case aCb => k_is)
    (case z_abs => k_is)
    (case z_all => k_is)
    (case z_any => k_is)
    (case z_bool => k_is)
    (case z_dict => k_is)
    (case z_enumerate => k_is)
    (case z_int => k_is)
    (case z_isinstance => k_is)
    (case z_len => k_is)
    (case z_list => k_is)
    (case z_max => k_is)
    (case z_min => k_is)
    (case z_range => k_is)
    (case z_repr => k_is)
    (case z_set => k_is)
    (case z_sorted => k_is)
    (case z_str => k_is)
    (case z_tuple => k_is)
    (case z_zip => k_is)
    (case gL => k_is)
