import PyProof.Rows.All
import Wide.All
import OpenK.AllK
import Wide.FinOn
import HandS.Codes
import HandS.Defaults
import HandS.Evl
import HandS.ForMost
import HandS.Gcd
import HandS.IsInst
import HandS.List
import HandS.MakeKwOnly
import HandS.OwnEq
import HandS.Set
import HandS.SetFor
import HandS.SetTxt0
import HandS.StrMore
import HandS.Strs
import HandS.TupAny
import HandS.TupSets
import HandS.Wide
import HandS.Zip
import KE.GoesEnum
import KE.GoesMore
import KE.KDictDisplayH
import PyProof.Rows.SortShellAny
import PySem.Challenge.RW_curvebells_k50_wishes_that_read_tales
set_option Elab.async false
set_option linter.all false
set_option maxRecDepth 100000
set_option maxHeartbeats 8000000
namespace Hb
open PySem PySem.Spec PyProof.Rows L2
/-! ### heaps -/
theorem same_new {H : Hp} {p : Addr} (h : H p = none) (o : HO) : Same H (upd H p o) := fun b u q => by
  rw [upd_ne (ne_of_none q h)]
  exact q
/-- a new object -/
theorem new_at {H : Hp} {p : Addr} {o : HO} {G : Hp → Prop} (h : H p = none) (k : ∀ H', Same H H' → H' p = some o → G H') : G (upd H p o) := k _ (same_new h o) upd_same
/-- a new tuple, a new list as the value of a display -/
theorem tup_at {H : Hp} {xs : List V} {Q : VK} (hl : xs.length ≤ 1000) (k : ∀ p H', H p = none → Same H H' → H' p = some (.tup xs) → Q (.ref p) H') : xs.length ≤ sizeLine ∧ ∀ p, H p = none → Q (.ref p) (upd H p (.tup xs)) :=
  ⟨Nat.le_trans hl (by decide), fun p hp => k p _ hp (same_new hp _) upd_same⟩
theorem lst_at {H : Hp} {xs : List V} {Q : VK} (hl : xs.length ≤ 1000) (k : ∀ p H', H p = none → Same H H' → H' p = some (.lst xs) → Q (.ref p) H') : xs.length ≤ sizeLine ∧ ∀ p, H p = none → Q (.ref p) (upd H p (.lst xs)) :=
  ⟨Nat.le_trans hl (by decide), fun p hp => k p _ hp (same_new hp _) upd_same⟩
/-- all but the object at p is as it was -/
def Kept (p : Addr) (H H' : Hp) : Prop := ∀ b o, H b = some o → b ≠ p → H' b = some o
theorem Same.kept {H H' : Hp} {p : Addr} (h : Same H H') : Kept p H H' := fun b o e _ => h b o e
theorem Kept.refl (p : Addr) (H : Hp) : Kept p H H := fun _ _ h _ => h
theorem Kept.trans {p : Addr} {H H1 H2 : Hp} (a : Kept p H H1) (b : Kept p H1 H2) : Kept p H H2 := fun c o h n => b c o (a c o h n) n
theorem kept_upd {p : Addr} {H : Hp} {o : HO} : Kept p H (upd H p o) := fun b u e n => by rw [upd_ne n]; exact e
/-- a tuple stays where the list at p changes -/
theorem Kept.tup {p t : Addr} {H H' : Hp} {xs ys : List V} (k : Kept p H H') (hp : H p = some (.lst ys)) (h : H t = some (.tup xs)) : H' t = some (.tup xs) := k t _ h (ne_of h hp (by intro z; cases z))

/-! ### tests -/
theorem iteD {c A B : Prop} [Decidable c] (h1 : c → A) (h2 : ¬ c → B) : if decide c = true then A else B := by
  by_cases h : c
  · rw [decide_eq_true h]
    exact iteT (h1 h)
  · rw [decide_eq_false h]
    exact iteF (h2 h)
theorem iteN {c A B : Prop} [Decidable c] (h1 : ¬ c → A) (h2 : c → B) : if (!decide c) = true then A else B := by
  by_cases h : c
  · rw [decide_eq_true h]
    exact iteF (h2 h)
  · rw [decide_eq_false h]
    exact iteT (h1 h)
theorem divw {i j : Int} (h0 : 0 < j) (h : j < 2 ^ 100) : CDivW i j := wide_div (b := 100) h0 (by omega) (by decide) (by decide)

/-! ### the defs of a text, by their promises -/
structure Cl (P : Program) (w : World) (K : PySem.W.Frag) (mg : Str → Option Value) (base : Heap) (x : Str) (ps : List Str) (dvs : List V) (lv : Nat) (sp : Sp) : Prop where
  ex : ∃ (f : Addr) (fd : FuncData) (ds : List Value), FnOk P w K mg base CX0 lv f fd ps sp ∧ mg x = some (.ref f) ∧ PySem.W.keepIn K (.ref f) = true ∧ Binds K fd ps ds ∧ Vals dvs ds
section
variable {X : Cx} {ps : List Str} {dvs : List V} {lv : Nat} {sp : Sp} {x : Str} {p pos : Pos} {e : Expr} {es : List Expr} {t : TA}
theorem pe_use (C : Cl X.prog X.w X.K X.mg X.base x ps dvs lv sp) (hr : Room lv X.A) (hg : Gl X x) (ha : PA X (e :: es) t) (hdb : (x == ("__debug__" : Str)) = false := by decide)
    (he : starEach (e :: es) X.env = (false, eval e X.env) :: starEach es X.env := by rfl) (hpl : (backTo pos (starEach es X.env)).any (·.1) = false := by rfl) : PE X (.Call (.Name x p) (e :: es) [] pos) (tCall sp dvs E0 t) := by
  obtain ⟨f, fd, ds, F, hm, hk, hb, hd⟩ := C.ex
  exact pe_call F hr hg hm hk hb hd pass0 ha hdb he hpl
theorem pe_use0 (C : Cl X.prog X.w X.K X.mg X.base x ps dvs lv sp) (hr : Room lv X.A) (hg : Gl X x) (hdb : (x == ("__debug__" : Str)) = false := by decide) : PE X (.Call (.Name x p) [] [] pos) (tCall sp dvs E0 tNil) := by
  obtain ⟨f, fd, ds, F, hm, hk, hb, hd⟩ := C.ex
  exact pe_call0 F hr hg hm hk hb hd pass0 hdb
end
/-- f(k = v, ..) without a value by place -/
structure ClK (P : Program) (w : World) (K : PySem.W.Frag) (mg : Str → Option Value) (base : Heap) (x : Str) (ps : List Str) (n : Nat) (ks : List Str) (gV : List V → List V → List V) (lv : Nat) (sp : Sp) : Prop where
  ex : ∃ (f : Addr) (fd : FuncData) (g : List Value → List Value → List Value), FnOk P w K mg base CX0 lv f fd ps sp ∧ mg x = some (.ref f) ∧ PySem.W.keepIn K (.ref f) = true ∧ KBn K fd ps n ks g gV
section
variable {X : Cx} {ps ks : List Str} {n : Nat} {gV : List V → List V → List V} {lv : Nat} {sp : Sp} {x : Str} {p pos : Pos} {e : Expr} {es : List Expr} {t tk : TA} {kws : List Keyword}
theorem pe_useK0 (C : ClK X.prog X.w X.K X.mg X.base x ps 0 ks gV lv sp) (hr : Room lv X.A) (hg : Gl X x) (hkw : PK X kws tk) (hall : (backToKw pos (keywordEach kws X.env)).all (·.1.isSome) = true := by rfl) (hks : (backToKw pos (keywordEach kws X.env)).filterMap (·.1) = ks := by rfl)
    (hdb : (x == ("__debug__" : Str)) = false := by decide) (hpl : ((backTo pos (starEach [] X.env)).any (·.1) || (backToKw pos (keywordEach kws X.env)).any (·.1.isNone)) = false := by rfl) :
    PE X (.Call (.Name x p) [] kws pos) (tCallN 0 ks.length sp gV E0 tNil tk) := by
  obtain ⟨f, fd, g, F, hm, hk, hb⟩ := C.ex
  refine ⟨fun pins s σ H Q I h => ?_⟩
  refine wpAny_Call_Name_kw (ld_glob I hg hm ?_ hdb)
  refine PySem.W.callWith_KW0 (h₀ := X.base) I.ok.mod.kin hk hall ?_ hpl
  refine thn (hkw.run pos pins s σ H _ I h) fun ws s2 ⟨zs, H2, I2, rz, l1, l2, q2⟩ => ⟨I2.kIn, ?_⟩
  rw [hks]
  exact run_fnN (us := []) (vs := []) F hr hb pass0 I2 .nil rz rfl l2 q2
theorem pe_useK (C : ClK X.prog X.w X.K X.mg X.base x ps n ks gV lv sp) (hr : Room lv X.A) (hg : Gl X x) (ha : PA X (e :: es) t) (hkw : PK X kws tk) (hall : (backToKw pos (keywordEach kws X.env)).all (·.1.isSome) = true := by rfl)
    (hks : (backToKw pos (keywordEach kws X.env)).filterMap (·.1) = ks := by rfl)
    (hdb : (x == ("__debug__" : Str)) = false := by decide) (he : starEach (e :: es) X.env = (false, eval e X.env) :: starEach es X.env := by rfl)
    (hpl : ((backTo pos (starEach (e :: es) X.env)).any (·.1) || (backToKw pos (keywordEach kws X.env)).any (·.1.isNone)) = false := by rfl) :
    PE X (.Call (.Name x p) (e :: es) kws pos) (tCallN n ks.length sp gV E0 t tk) := by
  obtain ⟨f, fd, g, F, hm, hk, hb⟩ := C.ex
  exact pe_callN F hr hg hm hk hb pass0 ha hkw hall hks hdb he hpl
end
/-- positional and keyword arguments that fill all parameters of a def with defaults -/
theorem kb_full {K : PySem.W.Frag} {x qual : Str} {params : Arguments} {body : List Stmt} {scope : Scope} {dvs : List V} {f : Addr} {fd : FuncData} {ps : List Str} (F : FunD K x qual params body scope dvs [] f fd) (n : Nat) (ks : List Str) (g : {α : Type} → List α → List α → List α → List α) (hd : dvs ≠ [])
    (hrel : ∀ {vs ds zs : List V} {us its ws : List Value}, Vals vs us → Vals ds its → Vals zs ws → Vals (g vs ds zs) (g us its ws))
    (h : ∀ (T : Addr) (kV doc pm : Value) (an : Option Addr) (cdv ct : Value) (us its ws : List Value), us.length = n → its.length = dvs.length → ws.length = ks.length →
      ∃ k, bindArgs (PySem.W.fnOf x qual params body scope (.ref T) kV doc pm an cdv ct) ⟨us, ks.zip ws⟩ = seqItems? (.ref T) >>= k ∧ k (some its.toArray) = pure (ps.zip (g us its ws))) :
    ∃ its : List Value, KBn K fd ps n ks (fun us ws => g us its ws) (fun vs zs => g vs dvs zs) := by
  obtain ⟨oc, od, dV, kV, doc, pm, an, cdv, ct, osl, rfl, lk, hcd, hD, hK⟩ := F.ex
  rcases hD with ⟨e, _⟩ | ⟨_, T, o, its, m, rfl, lT, oT, rT⟩
  · exact absurd e hd
  · refine ⟨its, ⟨fun s us ws X l1 l2 => ?_, fun r1 r2 => hrel r1 rT r2⟩⟩
    obtain ⟨k, e1, e2⟩ := h T kV doc pm an cdv ct us its ws l1 rT.length.symm l2
    refine BindsTo.of_looks fun M => ?_
    rw [e1]
    exact looks_items X lT oT (.of_pure e2)
end Hb

/-! enumerate of a tuple -/
namespace En
open PySem PySem.Spec PyProof.Rows L2
set_option maxHeartbeats 1000000 in
theorem new_one {v : Value} {it : Obj} {Z : Heap → Prop} (B : Begins v it Z) : Meets (Builtin.«enumerate.__new__» ⟨[.type "enumerate", v], []⟩) (fun _ R z => Z z.heap ∧
    R (.ok (.ret (.ref (z.heap.push it).objs.size))) { z with heap := (z.heap.push it).push { cls := .type "enumerate", data := .fields #[.none, .bool false, .ref z.heap.objs.size, rawInt 0, .none, .none] } }) :=
  .of_wp fun prog w A R z hz => by
    obtain ⟨hp, gs, dr, nt, oss⟩ := z
    obtain ⟨hZ, hR⟩ := hz
    have isub := sub_enumerate
    have begun : ∀ {A' : Around} {E : Value → Shared → Prop} {Q : Value → Shared → Prop}, Q (.ref hp.objs.size) ⟨hp.push it, gs, dr, nt, oss⟩ → wpAny (model prog w) A' (pyIter v) Q E ⟨hp, gs, dr, nt, oss⟩ :=
      fun qq => B.iter prog w _ _ ⟨hp, gs, dr, nt, oss⟩ _ hZ qq
    wp_walk using begun
    refine wpAny_stack_any fun _ => wpAny_pure ?_
    split
    · rename_i cl _ _ _ _ _
      cases (cl == Value.type "enumerate") <;> (wp_walk using begun; exact ⟨_, rfl, hR⟩)
    · wp_walk using begun
      exact ⟨_, rfl, hR⟩
section
variable {prog : Program} {w : World} {A : Around} {E : Value → Shared → Prop} {s : Shared}
theorem call_one {v : Value} {it : Obj} {Z : Heap → Prop} {Q : Value → Shared → Prop} (B : Begins v it Z) (hZ : Z s.heap)
    (fin : ∀ h', IsEnum h' (s.heap.objs.size + 1) s.heap.objs.size 0 .none → h'.get? s.heap.objs.size = some it → (∀ b o, s.heap.get? b = some o → h'.get? b = some o) → Q (.ref (s.heap.objs.size + 1)) { s with heap := h' }) :
    wpAny (model prog w) A (call (.type "enumerate") [v]) Q E s := by
  refine callType_new F.called_enumerate (by decide) (F.typeCall_enumerate_1 v) (F.newCall_enumerate_1 v) (fun self => F.args_object_init_2 self v) F.entry_enumerate_new (new_one B) ⟨hZ, ?_⟩
  have size1 : (s.heap.push it).objs.size = s.heap.objs.size + 1 := Heap.size_push ..
  show _ ∧ _
  rw [size1]
  have at1 : IsEnum ((s.heap.push it).push { cls := .type "enumerate", data := .fields #[.none, .bool false, .ref s.heap.objs.size, rawInt 0, .none, .none] }) (s.heap.objs.size + 1) s.heap.objs.size 0 .none := by
    have z := Heap.get?_push_size (s.heap.push it) (o := { cls := .type "enumerate", data := .fields #[.none, .bool false, .ref s.heap.objs.size, rawInt 0, .none, .none] }) rfl
    rw [size1] at z
    exact z
  exact ⟨⟨_, at1, rfl⟩, fin _ at1 (Heap.get?_push_of_some _ (Heap.get?_push_size _ B.free)) fun b o y => Heap.get?_push_of_some _ (Heap.get?_push_of_some _ y)⟩
end
def IteT (K : PySem.W.Frag) (a : Addr) : It where
  go i H := ∃ (xs : List V) (x : V), SqT K H a xs ∧ xs[i]? = some x
  yld i H v H' := ∃ T x, v = .ref T ∧ H T = none ∧ H' = upd H T (.tup [.int (i : Nat), x]) ∧ ∀ xs, SqT K H a xs → xs[i]? = some x
  stop i H := ∃ xs : List V, SqT K H a xs ∧ xs.length ≤ i
theorem tup_ne {h : Heap} {a it : Addr} {k : Nat} {items : Array Value} (h1 : h.IsTuple a items) (h2 : h.IsTupleIter it a k) : a ≠ it := by
  intro e
  obtain ⟨o, ho, hc, _⟩ := h1
  obtain ⟨o2, ho2, hc2, _⟩ := h2
  rw [← e, ho] at ho2
  cases ho2
  exact absurd (Value.type.inj (hc.symm.trans hc2)) (by decide)
theorem turn_enumT {P : Program} {w : World} {K : PySem.W.Frag} {elts : List Expr} {kk : Nat} {tpos : Pos} (a e it : Addr) :
    Turn P w K (.Tuple elts kk tpos) (IteT K a) [e, it] e (fun i h => (∃ old, IsEnum h e it ((i : Nat) : Int) old) ∧ h.IsTupleIter it a i ∧ e ≠ it) where
  mem := by simp
  obj i h st b hb := by
    obtain ⟨⟨old, hen⟩, ⟨o, ho, _, hd⟩, _⟩ := st
    rcases (show b = e ∨ b = it by simpa using hb) with z | z
    · exact ⟨_, by rw [z]; exact hen, fun v q => by cases (show Data.fields _ = Data.cell v from q)⟩
    · exact ⟨o, by rw [z]; exact ho, fun v q => by rw [hd] at q; cases q⟩
  keep i h h' st k := by
    obtain ⟨⟨old, hen⟩, hti, ne⟩ := st
    exact ⟨⟨old, k e (by simp) _ hen⟩, hti.at fun o q => k it (by simp) o q, ne⟩
  item := by
    intro X hP hw hK hc i pins s σ H E I hf st hg
    subst hP hw hK
    obtain ⟨⟨old, hen⟩, hti, ne⟩ := st
    obtain ⟨xs, x, hq, hx⟩ := hg
    obtain ⟨its, rel, pt, _⟩ := I.tuple hq
    obtain ⟨u, hu, ru⟩ := rel.get hx
    have lt1 : e < s.heap.objs.size := Heap.lt_size hen
    have lt2 : it < s.heap.objs.size := by obtain ⟨_, y, _⟩ := hti; exact Heap.lt_size y
    have ane := tup_ne pt hti
    have elt : ∀ b ∈ [e, it], b < s.heap.objs.size := fun b hb => by
      rcases (show b = e ∨ b = it by simpa using hb) with z | z <;> rw [z] <;> assumption
    have ena : e ≠ a := fun z => by
      obtain ⟨o, ho, hcl, _⟩ := pt
      have q : s.heap.get? e = _ := hen
      rw [z, ho] at q
      cases q
      exact absurd (Value.type.inj hcl) (by decide)
    have hh : X.A.in1.handled = none := I.ok.hd hc
    refine wpAny_pyNext_enum_itemD (Draws.tuple hh it a ane its.toArray) hen ⟨hti, pt⟩ (show i < its.toArray.size by rw [List.size_toArray]; exact (List.getElem?_eq_some_iff.mp hu).1) ne (by simp [ne, ena]) fun y h' tk hy out st' hT hsz hk => ?_
    have hyu : y = u := by
      have : its[i]? = some y := by simpa using hy
      rw [hu] at this
      exact (Option.some.inj this).symm
    subst hyu
    refine ⟨_, rfl, wpAny_letOwnedTupleGo_enum (s := { s with heap := h', toks := tk + 1 }) out fun h2 hen2 sb => ?_⟩
    have t2 : h2.get? s.heap.objs.size = some { cls := .type "tuple", data := .seq #[.int i tk, y] } := (sb.2 _ (Nat.ne_of_gt lt1)).trans hT
    have newT : ObjOk X.prog X.w (upd H s.heap.objs.size (.tup [.int (i : Nat), x])) h2 s.heap.objs.size (.tup [.int (i : Nat), x]) :=
      ⟨by show 2 ≤ sizeLine; decide, [.int i tk, y], .cons ⟨_, rfl⟩ (.cons ru .nil), ⟨_, t2, rfl, _, rfl⟩⟩
    have J : Inv X pins σ (upd H s.heap.objs.size (.tup [.int (i : Nat), x])) { s with heap := h2, toks := tk + 1 } :=
      I.turnedNew (t' := tk + 1) (ch := [e, it]) (fun b ob hb q => (sb.2 b (fun z => hb (by simp [z]))).trans (hk b ob (fun z => hb (by simp [z])) (fun z => hb (by simp [z])) q)) hf (Nat.le_refl _) newT
    refine ⟨.ref s.heap.objs.size, _, J, rfl, ⟨_, x, rfl, I.hok.fresh (Nat.le_refl _), rfl, fun ys hys => by rw [I.tuple_inj hys hq]; exact hx⟩, ⟨⟨y, ?_⟩, st'.1.at fun o q => (sb.2 it (Ne.symm ne)).trans q, ne⟩, fun b hb => ?_⟩
    · rw [show ((i + 1 : Nat) : Int) = (i : Int) + 1 by omega]
      exact hen2
    · rw [upd_ne (Nat.ne_of_lt (elt b hb))]
      exact (hf b hb).1
  done := by
    intro X hP hw hK hc i pins s σ H E I hf st hg
    subst hP hw hK
    obtain ⟨⟨old, hen⟩, hti, ne⟩ := st
    obtain ⟨xs, hq, hx⟩ := hg
    obtain ⟨its, rel, pt, _⟩ := I.tuple hq
    obtain ⟨g0, g1, g2, g3, g4, g5⟩ := hf it (by simp)
    have hl := rel.length
    have hh : X.A.in1.handled = none := I.ok.hd hc
    have T : Draws X.prog X.w X.A.in1 it [it, a] i (fun i v => its.toArray[i]? = some v) (fun k h => k = i ∧ h.IsTupleIter it a i ∧ h.IsTuple a its.toArray) := {
      live := fun _ _ sj => let ⟨o, ho, _⟩ := sj.2.1; ⟨o, ho⟩
      frame := fun _ _ _ sj k => ⟨sj.1, sj.2.1.at fun o q => k it (by simp) o q, sj.2.2.at fun o q => k a (by simp) o q⟩
      item := fun j z Q' E' hj sj hQ => absurd sj.1 (Nat.ne_of_lt hj)
      done := fun z Q' E' sj hE => wpAny_nextOf_tuple_end hh sj.2.1 sj.2.2 (by simp; omega) hE }
    exact wpAny_pyNext_enum_endD T hen ⟨rfl, hti, pt⟩ fun h' eb => ⟨rfl, I.turned (t' := s.toks) (fun b o hb q => eb b o hb q) g0 g1 g3 g4 g5⟩
  self A i s Q E st h := by
    obtain ⟨⟨_, hen⟩, _⟩ := st
    exact wpAny_pyIter_enum hen h
def iEnumT (K : PySem.W.Frag) (ta : TA) : TI := fun σ H R => ta σ H fun vs H1 => ∃ a, vs = [.ref a] ∧ (∃ xs, SqT K H1 a xs) ∧ R (IteT K a) H1
theorem pi_enumT {X : Cx} {e : Expr} {ta : TA} {p pos tpos : Pos} {elts : List Expr} {kk : Nat} (hg : Gl X "enumerate") (hm : X.mg "enumerate" = none) (ha : PA X [e] ta) (hs : starEach [e] X.env = [(false, eval e X.env)] := by rfl) :
    PI X (.Tuple elts kk tpos) (.Call (.Name "enumerate" p) [e] [] pos) (iEnumT X.K ta) := by
  refine ⟨fun pins s σ H R I h => Call_ (ld_blt I hg hm boot_enumerate (PyProof.Rows.callWith_type1 (thn (ha.run pos pins s σ H _ I h) fun us s1 gone => ?_) hs rfl))⟩
  obtain ⟨vs, H1, I1, rel, a, rfl, ⟨xs, hq⟩, qq⟩ := gone
  match us, rel with
  | [_], .cons r .nil =>
    cases r
    obtain ⟨its, _, pt, _⟩ := I1.tuple hq
    refine call_one (begins_tuple a its.toArray) pt fun h' hen hit hk => wpAny_pyIter_enum hen ?_
    have J : Inv X pins σ H1 { s1 with heap := h' } := I1.kept (t' := s1.toks) hk
    refine ⟨s1.heap.objs.size + 1, [s1.heap.objs.size + 1, s1.heap.objs.size], _, _, H1, rfl, J, turn_enumT a (s1.heap.objs.size + 1) s1.heap.objs.size, ⟨⟨.none, hen⟩, ⟨_, hit, rfl, rfl⟩, Nat.succ_ne_self _⟩, fun b hb => ?_, qq⟩
    have le : s1.heap.objs.size ≤ b := by
      rcases (show b = s1.heap.objs.size + 1 ∨ b = s1.heap.objs.size by simpa using hb) with z | z
      · rw [z]; exact Nat.le_succ _
      · rw [z]; exact Nat.le_refl _
    exact I1.fpOk le (I1.hok.fresh le)
/-- for i, x in enumerate(t) -/
theorem for_enumT {K : PySem.W.Frag} {a : Addr} {xs : List V} {g : TG} {tb : TS} {D : Ends} {σ : L2.St} {H : Hp} (Pv : Nat → L2.St → Hp → Prop) (h0 : Pv 0 σ H) (hl : ∀ i σ H, Pv i σ H → SqT K H a xs)
    (hs : ∀ (i : Nat) (x : V) (T : Addr) (σ : L2.St) (H : Hp), xs[i]? = some x → Pv i σ H → H T = none → g (.ref T) σ (upd H T (.tup [.int (i : Nat), x])) fun σ2 H2 => tb { D with nx := Pv (i + 1), ct := Pv (i + 1), bk := D.nx } σ2 H2)
    (hd : ∀ σ H, Pv xs.length σ H → D.nx σ H) :
    ∃ W : Nat → Nat → L2.St → Hp → Prop, (∃ m, W 0 m σ H) ∧ ∀ i m σ H, W i m σ H →
      ((IteT K a).stop i H ∧ D.nx σ H) ∨ ((IteT K a).go i H ∧ ∃ N : L2.St → Hp → Prop, (∀ σ' H', N σ' H' → ∃ m', m' < m ∧ W (i + 1) m' σ' H') ∧ ∀ v H', (IteT K a).yld i H v H' → g v σ H' fun σ2 H2 => tb { D with nx := N, ct := N, bk := D.nx } σ2 H2) := by
  refine ⟨fun i m σ H => m + i = xs.length ∧ Pv i σ H, ⟨xs.length, rfl, h0⟩, fun i m σ H ⟨e, p⟩ => ?_⟩
  have q := hl i σ H p
  cases m with
  | zero => exact .inl ⟨⟨xs, q, by omega⟩, hd σ H (by rw [show xs.length = i by omega]; exact p)⟩
  | succ m =>
    have hlt : i < xs.length := by omega
    refine .inr ⟨⟨xs, xs[i], q, List.getElem?_eq_getElem hlt⟩, Pv (i + 1), fun σ' H' p' => ⟨m, Nat.lt_succ_self m, by omega, p'⟩, fun v H' y => ?_⟩
    obtain ⟨T, x, rfl, hT, rfl, hx⟩ := y
    exact hs i x T σ H (hx xs q) p hT
end En

/-! sets of texts, made of a list or tuple; sorted of them -/
namespace St
open PySem PySem.Spec PyProof.Rows L2 PySem.Froz
section
variable {P : Program} {w : World} {A : Around} {E : Value → Shared → Prop} {s : Shared}
/-- the order of a set's walk is known to be some order -/
def Led (w : World) (t : SetTable) : Prop := w.params.followText "set-order" = true ∨ t.led = true
/-- the set of the texts l stands at a -/
def TS (P : Program) (w : World) (h : Heap) (a : Addr) (l : List Str) : Prop := ∃ D, h.get? a = some (sObj "set" D) ∧ TxOk P w D l ∧ Ris D.2.2.place.toList ∧ Led w D.2.2 ∧ l.Nodup
theorem TS.at {h h' : Heap} {a : Addr} {l : List Str} (R : TS P w h a l) (k : ∀ o, h.get? a = some o → h'.get? a = some o) : TS P w h' a l := let ⟨D, e, r⟩ := R; ⟨D, k _ e, r⟩
theorem tail_ris {es : Array (Int × Value)} {t : SetTable} {ep : Nat} {wd : Bool} (r : Ris t.place.toList) : Ris (tailTx ep es t wd).2.2.place.toList := by
  unfold tailTx
  by_cases c : (!wd && t.tooFull) = true
  · rw [if_pos c]; exact relayAll_ris _ _ _
  · rw [if_neg c]; exact r
theorem tail_led {es : Array (Int × Value)} {t : SetTable} {ep : Nat} {wd : Bool} (r : t.led = true) : (tailTx ep es t wd).2.2.led = true := by
  unfold tailTx
  by_cases c : (!wd && t.tooFull) = true
  · rw [if_pos c]; exact (relayAll_led _ _ _).trans r
  · rw [if_neg c]; exact r
theorem addTx_ris {D : SD} {n : Int} {v : Value} (r : Ris D.2.2.place.toList) : Ris (addTx n v D).2.2.place.toList := by
  have r1 := layNew_ris D.2.2 D.1 n v r
  unfold addTx
  refine tail_ris ?_
  by_cases c : (layNew D.2.2 D.1 n v).2.1.plain = true
  · rw [if_pos c]; exact r1
  · rw [if_neg c]; exact r1
theorem addTx_led {D : SD} {n : Int} {v : Value} (r : Led w D.2.2) : Led w (addTx n v D).2.2 := by
  rcases r with r | r
  · exact .inl r
  · have l1 : (layNew D.2.2 D.1 n v).2.1.led = true := (layNew_led _ _ _ _).trans r
    refine .inr ?_
    unfold addTx
    refine tail_led ?_
    by_cases c : (layNew D.2.2 D.1 n v).2.1.plain = true
    · rw [if_pos c]; exact l1
    · rw [if_neg c]; exact l1
/-- add of a text that is in already -/
theorem had_x {a : Addr} {D : SD} {l : List Str} {k : Str} {u : Tok} {Q : Bool → Shared → Prop} (ho : s.heap.get? a = some (sObj "set" D)) (F : TxOk P w D l) (hk : k ∈ l) (hb : l.length < scanBound)
    (q : Q false s) : wpAny (model P w) A (setAddHashed a (.str k u) (hashStr w k)) Q E s := by
  obtain ⟨es, ep, t⟩ := D
  have small : es.size < scanBound := by rw [show es.size = l.length from F.sz]; exact hb
  obtain ⟨e, he, ie⟩ := (F.mem k).mp hk
  unfold setAddHashed setAddHashedIn
  refine wpAny_holding (wpAny_bind (wpAny_setState_of ho (rfl : (sObj "set" (es, ep, t)).data = .set es ep t) F.fit ?_)); dsimp only
  rw [byScan_of rfl small F.el, if_pos rfl]; unfold setAddByScan
  refine wpAny_bind (wpAny_bind (wpAny_rule (wpAny_bind (wpAny_setScan_of (knd := strKind P w) (is_str k u) ho rfl F.fit F.el ?_))))
  cases hr : es.toList.findIdx? (fun e => (strKind P w).is k e.2) with
  | some j => exact wpAny_pure (wpAny_pure q)
  | none => exact absurd ie (by rw [List.findIdx?_eq_none_iff.mp hr e he]; decide)
theorem ts_add {a : Addr} {l : List Str} {k : Str} {u : Tok} {Q : Bool → Shared → Prop} (R : TS P w s.heap a l) (hb : l.length + 1 < scanBound)
    (q : ∀ h' b, Heap.SameBut a s.heap h' → TS P w h' a (if k ∈ l then l else k :: l) → Q b { s with heap := h' }) : wpAny (model P w) A (setAddHashed a (.str k u) (hashStr w k)) Q E s := by
  obtain ⟨D, e, F, r, ld, nd⟩ := R
  by_cases hk : k ∈ l
  · exact had_x e F hk (by omega) (q s.heap false (Heap.SameBut.refl a s.heap) ⟨D, e, by rw [if_pos hk]; exact F, r, ld, by rw [if_pos hk]; exact nd⟩)
  · refine add_x e F hk hb (q _ true (Heap.SameBut.update s.heap a _) ⟨_, get_upd _ e rfl, ?_, addTx_ris r, addTx_led ld, ?_⟩)
    · rw [if_neg hk]; exact add_ok u F
    · rw [if_neg hk]; exact List.nodup_cons.mpr ⟨hk, nd⟩
/-- S.update(it), texts -/
theorem upd_texts {I : Addr} {fp wr : List Addr} {G : Array GenState → Array GenState → Prop} {n : Nat} {Pv : Nat → Value → Prop} {St : Nat → Shared → Prop} {R : Result → Shared → Prop}
    (W : WalksS P w A.in1 I fp wr G n Pv St) {S : Addr} (hS : S ∉ fp) {xs : List Str} (hn : n = xs.length) (hb : xs.length + 1 < scanBound) (hv : ∀ i v, Pv i v → ∃ x t, xs[i]? = some x ∧ v = .str x t) :
    ∀ (k i : Nat) (s : Shared) (l : List Str), n - i = k → i ≤ n → St i s → TS P w s.heap S l → l.length ≤ i → (∀ x, x ∈ l ↔ x ∈ xs.take i) →
      (∀ s' m, Moved (S :: wr) G s s' → TS P w s'.heap S m → m.length ≤ n → (∀ x, x ∈ m ↔ x ∈ xs) → R (.ok (.ret .none)) s') →
      codeAny (model P w) A (.builtin "set.update.loop" ⟨[.ref S, .ref I], []⟩) R s := by
  have sw : S ∉ wr := fun z => hS (W.sub S z)
  have wide : ∀ {s s' : Shared}, Moved wr G s s' → Moved (S :: wr) G s s' := fun m => m.mono fun b z => List.mem_cons_of_mem S z
  intro k
  induction k with
  | zero =>
    intro i s l e1 e2 st hT hl hm q
    obtain rfl : i = n := by omega
    refine codeAny_builtin F.entry_set_update_loop ?_
    rw [Around.under_plainId F.plain_set_update_loop _]
    refine wpAny_bind (m := pyNext (.ref I)) (W.done s _ _ st fun s' mv => ?_)
    refine wpAny_pure (q s' l (wide mv) (hT.at fun o e => mv.heap S o sw e) hl fun x => ?_)
    rw [hm x, List.take_of_length_le (by omega)]
  | succ k ih =>
    intro i s l e1 e2 st hT hl hm q
    have hi : i < n := by omega
    refine codeAny_builtin F.entry_set_update_loop ?_
    rw [Around.under_plainId F.plain_set_update_loop _]
    refine wpAny_bind (m := pyNext (.ref I)) (W.item i s _ _ hi st fun v s1 pv st1 mv => ?_)
    obtain ⟨x, t, ex, rfl⟩ := hv i v pv
    refine wpAny_bind (m := holding [Value.str x t] (setAdd S (.str x t))) (wpAny_holding ?_)
    unfold setAdd
    refine wpAny_holding (wpAny_bind ((strKind P w).pyHash (is_str (P := P) (w := w) x t) ?_))
    refine ts_add (s := { s1 with toks := s1.toks + 1 }) (hT.at fun o e => mv.heap S o sw e) (by omega) fun h' _ sb hT' => ?_
    have back : ∀ b o, b ≠ S → s1.heap.get? b = some o → h'.get? b = some o := fun b o ne e => (sb.2 b ne).trans e
    refine wpAny_pure ⟨plainId_quiet F.plain_set_update_loop _, ih (i + 1) _ _ (by omega) hi (W.frame _ s1 _ _ st1 (Nat.le_succ _) fun b z o e => back b o (fun y => hS (y ▸ z)) e) hT' ?_ (fun y => ?_) fun s2 m mv2 hT2 hl2 hm2 => ?_⟩
    · split
      · omega
      · rw [List.length_cons]; omega
    · rw [List.take_add_one, ex, List.mem_append, ← hm y]
      show _ ↔ _ ∨ y ∈ [x]
      rw [List.mem_singleton]
      split
      · exact ⟨.inl, fun z => z.elim id fun z => z ▸ (by assumption)⟩
      · rw [List.mem_cons]; exact Or.comm
    · exact q s2 m (Moved.trans W.gtrans ((wide mv).then_heap (Nat.le_succ _) fun b o z e => back b o (fun y => z (y ▸ List.mem_cons_self)) e) mv2) hT2 hl2 hm2
end
end St

namespace St
open PySem PySem.Spec PyProof.Rows L2 PySem.Froz
/-- a new set -/
abbrev S0 (w : World) : Obj := { cls := .type "set", dict := none, data := .set #[] 0 (.fresh 0 0 (!w.params.followText "set-order")) }
section
variable {P : Program} {w : World} {A : Around} {E : Value → Shared → Prop} {s : Shared}
set_option maxHeartbeats 8000000 in
/-- set(x), x a list or a tuple at l: its loop told by `loop` -/
theorem set_call {l : Addr} {T : String} {ol itO : Obj} {Res : Heap → Prop} {Q : Value → Shared → Prop} (hh : A.handled = none) (hol : s.heap.get? l = some ol) (hcl : ol.cls = .type T)
    (n1 : isSubtype (.type T) (.type "set") = pure false) (n2 : isSubtype (.type T) (.type "frozenset") = pure false) (n3 : (Value.type T == Value.type "dict") = false)
    (itr : ∀ {A : Around} {E : Value → Shared → Prop} {s1 : Shared} {Q : Value → Shared → Prop}, s1.heap.get? l = some ol → Q (.ref s1.heap.objs.size) { s1 with heap := s1.heap.push itO } → wpAny (model P w) A (pyIter (.ref l)) Q E s1)
    (loop : ∀ (A' : Around) (R : Result → Shared → Prop) (tk : Tok), A'.handled = none →
      (∀ h' tk', Res h' → (∀ b o, s.heap.get? b = some o → h'.get? b = some o) → R (.ok (.ret .none)) { s with heap := h', toks := tk' }) →
      codeAny (model P w) A' (.builtin "set.update.loop" ⟨[.ref s.heap.objs.size, .ref (s.heap.push (S0 w)).objs.size], []⟩) R { s with heap := (s.heap.push (S0 w)).push itO, toks := tk })
    (q : ∀ h' tk, Res h' → (∀ b o, s.heap.get? b = some o → h'.get? b = some o) → Q (.ref s.heap.objs.size) { s with heap := h', toks := tk }) :
    wpAny (model P w) A (call (.type "set") [.ref l]) Q E s := by
  obtain ⟨_, _, mro⟩ := F.called_set.mro; have made := F.called_set.made; have sub := F.called_set.sub; have k1 := F.called_set.notType; have k2 := F.called_set.canCreate; have ct := F.typeCall_set_1 (.ref l)
  refine wpAny_call (codeAny_of_tree ?_); show wpAny _ _ (callAny (.type "set") _) _ _ _
  refine wpAny_pure ⟨Code.quiet_builtin _ (by decide +kernel), codeAny_builtin F.entry_type_call ?_⟩; rw [Around.under_plain (weight_type_call_type "set" [.ref l] []) rfl]
  repeat any_goals first | assumption | wp_step
  refine codeAny_mono (code_set_led1 (.ref l) (E := E) (Q₁ := fun o s1 => o = .ref s.heap.objs.size ∧ s1 = { s with heap := s.heap.push (S0 w) }) ⟨rfl, rfl⟩) fun r s1 hr => ?_
  rcases r with e | (_ | _ | _ | o)
  · exact hr
  · exact hr.elim
  · exact hr.elim
  · exact hr.elim
  · obtain ⟨rfl, rfl⟩ := hr
    have hS : (s.heap.push (S0 w)).get? s.heap.objs.size = some (S0 w) := Heap.get?_push_size _ rfl
    have hT : Shared.TypeIs { s with heap := s.heap.push (S0 w) } (.ref s.heap.objs.size) "set" := ⟨_, hS, rfl⟩
    have il := F.called_set.init.lookup; have ib := F.called_set.init.bind (.ref s.heap.objs.size)
    repeat any_goals first | assumption | wp_step
    refine codeAny_mono (codeAny_call_builtin (R := wants (fun r s2 => r = .none ∧ ∃ h' tk, s2 = { s with heap := h', toks := tk } ∧ Res h' ∧ (∀ b o, s.heap.get? b = some o → h'.get? b = some o)) E) F.called_set.init.plain F.entry_set_init (check_set_init_1 hT ?_)) fun r2 s2 h2 => ?_
    · have e1 : (s.heap.push (S0 w)).get? l = some ol := Heap.get?_push_of_some _ hol
      have hTl : Shared.TypeIs { s with heap := s.heap.push (S0 w) } (.ref l) T := ⟨ol, e1, hcl⟩
      unfold Builtin.«set.__init__» noKeywords Builtin.Frozenset.updateFrom
      generalize hI : pyIter = PI
      obtain ⟨c, d, da, sl⟩ := ol
      dsimp only at hcl
      subst hcl
      wp_walk
      subst hI
      refine itr e1 (wpAny_bind (wpAny_runValue (loop _ _ _ (by simp [hh]) fun h' tk r k => ?_)))
      exact wpAny_pure (wpAny_pure ⟨rfl, h', tk, rfl, r, k⟩)
    · rcases r2 with e | (_ | _ | _ | o)
      · exact h2
      · exact h2.elim
      · exact h2.elim
      · exact h2.elim
      · obtain ⟨rfl, h', tk, rfl, r, k⟩ := h2
        repeat any_goals first | assumption | wp_step
        exact q _ _ r k
end
end St

namespace St
open PySem PySem.Spec PyProof.Rows L2 PySem.Froz
section
variable {P : Program} {w : World} {A : Around} {E : Value → Shared → Prop} {s : Shared}
theorem lkp {h : Heap} {o o' : Obj} {b : Addr} {u : Obj} (e : h.get? b = some u) : ((h.push o).push o').get? b = some u := Heap.get?_push_of_some _ (Heap.get?_push_of_some _ e)
/-- what the loop of the update leaves -/
theorem moved_end {s s' : Shared} {h1 : Heap} {tk : Tok} {S I : Addr} (hS : S = s.heap.objs.size) (hI : s.heap.objs.size ≤ I) (old : ∀ b o, s.heap.get? b = some o → h1.get? b = some o)
    (m : Moved [S, I] (fun a b => b = a) { s with heap := h1, toks := tk } s') : s' = { s with heap := s'.heap, toks := s'.toks } ∧ ∀ b o, s.heap.get? b = some o → s'.heap.get? b = some o := by
  refine ⟨?_, fun b o e => m.heap b o (fun z => ?_) (old b o e)⟩
  · have g := m.gens
    have d := m.drawn
    have os := m.os
    cases s'
    dsimp only at g d os ⊢
    rw [g, d, os]
  · have lt := Heap.lt_size e
    rcases List.mem_cons.mp z with z | z
    · exact absurd lt (by rw [z, hS]; exact Nat.lt_irrefl _)
    · exact absurd lt (by rw [List.mem_singleton.mp z]; exact Nat.not_lt_of_le hI)
theorem places {l : Addr} (lt : l < s.heap.objs.size) : l ≠ (s.heap.push (S0 w)).objs.size ∧ s.heap.objs.size ∉ [(s.heap.push (S0 w)).objs.size, l] ∧ s.heap.objs.size ≤ (s.heap.push (S0 w)).objs.size := by
  rw [Heap.size_push]
  refine ⟨Nat.ne_of_lt (Nat.lt_succ_of_lt lt), fun z => ?_, Nat.le_succ _⟩
  rcases List.mem_cons.mp z with z | z
  · exact absurd z (Nat.ne_of_lt (Nat.lt_succ_self _))
  · exact absurd (List.mem_singleton.mp z) (Nat.ne_of_gt lt)
/-- set(x), texts, x a list or a tuple -/
theorem set_texts {l : Addr} {its : Array Value} {xs : List Str} {Q : Value → Shared → Prop} (hh : A.handled = none) (hl : s.heap.IsList l its ∨ s.heap.IsTuple l its) (hx : StrsAre its.toList xs) (hb : xs.length + 1 < scanBound)
    (q : ∀ h' tk m, TS P w h' s.heap.objs.size m → m.length ≤ xs.length → (∀ x, x ∈ m ↔ x ∈ xs) → (∀ b o, s.heap.get? b = some o → h'.get? b = some o) → Q (.ref s.heap.objs.size) { s with heap := h', toks := tk }) :
    wpAny (model P w) A (call (.type "set") [.ref l]) Q E s := by
  have len : its.size = xs.length := by rw [← Array.length_toList]; exact hx.len_eq
  have val : ∀ i v, its[i]? = some v → ∃ x t, xs[i]? = some x ∧ v = Value.str x t := fun i v e => by
    rw [← Array.getElem?_toList] at e
    have hi : i < xs.length := by rw [← hx.len_eq]; exact (List.getElem?_eq_some_iff.mp e).1
    obtain ⟨t, et⟩ := hx.at (List.getElem?_eq_getElem hi)
    exact ⟨xs[i], t, List.getElem?_eq_getElem hi, Option.some.inj (e.symm.trans et)⟩
  have fin : ∀ (I : Addr), I = (s.heap.push (S0 w)).objs.size → I = s.heap.objs.size + 1 := fun I e => e.trans (Heap.size_push ..)
  have start : ∀ o', TS P w ((s.heap.push (S0 w)).push o') s.heap.objs.size [] := fun o' =>
    ⟨(#[], 0, .fresh 0 0 (!w.params.followText "set-order")), Heap.get?_push_of_some _ (Heap.get?_push_size _ rfl), TxOk.nil rfl, List.Pairwise.nil, by
      show _ ∨ (!w.params.followText "set-order") = true
      cases w.params.followText "set-order" <;> simp, List.nodup_nil⟩
  rcases hl with ⟨ol, e, c, n, d⟩ | ⟨ol, e, c, n, d⟩
  · refine set_call (Res := fun h' => ∃ m, TS P w h' s.heap.objs.size m ∧ m.length ≤ xs.length ∧ ∀ x, x ∈ m ↔ x ∈ xs) hh e c F.sub_list_set F.sub_list_frozenset (by decide) (fun {_ _ s1 _} e1 h => wpAny_pyIter_list (s := s1) ⟨ol, e1, c, n, d⟩ h) (fun A' R tk ha hR => ?_) fun h' tk ⟨m, r1, r2, r3⟩ k => q h' tk m r1 r2 r3 k
    have lt := Heap.lt_size e
    obtain ⟨ne, nin, up⟩ := places (w := w) lt
    refine upd_texts (s := { s with heap := (s.heap.push (S0 w)).push _, toks := tk }) ((Walks.list (A := A'.in1) (by simpa using ha) _ l ne its).toS) (S := s.heap.objs.size) nin len hb val (its.size - 0) 0 [] (by omega) (Nat.zero_le _)
      ⟨⟨_, Heap.get?_push_size _ rfl, rfl, rfl⟩, ⟨ol, lkp e, c, n, d⟩⟩ (start _) (Nat.zero_le _) (fun x => by simp) fun s' m mv r1 r2 r3 => ?_
    obtain ⟨es, k⟩ := moved_end rfl up (fun b o z => lkp z) mv
    rw [es]
    exact hR _ _ ⟨m, r1, by omega, r3⟩ k
  · refine set_call (Res := fun h' => ∃ m, TS P w h' s.heap.objs.size m ∧ m.length ≤ xs.length ∧ ∀ x, x ∈ m ↔ x ∈ xs) hh e c F.sub_tuple_set F.sub_tuple_frozenset (by decide) (fun {_ _ s1 _} e1 h => wpAny_pyIter_tuple (s := s1) ⟨ol, e1, c, n, d⟩ h) (fun A' R tk ha hR => ?_) fun h' tk ⟨m, r1, r2, r3⟩ k => q h' tk m r1 r2 r3 k
    have lt := Heap.lt_size e
    obtain ⟨ne, nin, up⟩ := places (w := w) lt
    refine upd_texts (s := { s with heap := (s.heap.push (S0 w)).push _, toks := tk }) ((Walks.tuple (A := A'.in1) (by simpa using ha) _ l ne its).toS) (S := s.heap.objs.size) nin len hb val (its.size - 0) 0 [] (by omega) (Nat.zero_le _)
      ⟨⟨_, Heap.get?_push_size _ rfl, rfl, rfl⟩, ⟨ol, lkp e, c, n, d⟩⟩ (start _) (Nat.zero_le _) (fun x => by simp) fun s' m mv r1 r2 r3 => ?_
    obtain ⟨es, k⟩ := moved_end rfl up (fun b o z => lkp z) mv
    rw [es]
    exact hR _ _ ⟨m, r1, by omega, r3⟩ k
/-- set(x), ints, x a list or a tuple -/
theorem set_ints {l : Addr} {its : Array Value} {xs : List Int} {Q : Value → Shared → Prop} (hh : A.handled = none) (hl : s.heap.IsList l its ∨ s.heap.IsTuple l its) (hx : IntsAre its.toList xs) (hb : xs.length + 1 < scanBound)
    (q : ∀ h' tk c, SetR w h' s.heap.objs.size (fun j => decide (j ∈ xs)) c → c ≤ xs.length → (∀ b o, s.heap.get? b = some o → h'.get? b = some o) → Q (.ref s.heap.objs.size) { s with heap := h', toks := tk }) :
    wpAny (model P w) A (call (.type "set") [.ref l]) Q E s := by
  have len : its.size = xs.length := by rw [← Array.length_toList]; exact hx.length
  have val : ∀ i v, its[i]? = some v → ∃ k t, xs[i]? = some k ∧ v = Value.int k t := fun i v e => by
    have hi : i < xs.length := by rw [← len]; exact (Array.getElem?_eq_some_iff.mp e).1
    obtain ⟨t, et⟩ := IntsAre.int_at hx i v (by rw [Array.getElem?_toList]; exact e)
    exact ⟨xs[i], t, List.getElem?_eq_getElem hi, by rw [et, List.getD_eq_getElem?_getD, List.getElem?_eq_getElem hi] <;> rfl⟩
  have start : ∀ o', SetR w ((s.heap.push (S0 w)).push o') s.heap.objs.size (fun j => decide (j ∈ xs.take 0)) 0 := fun o' => setR_new_at (Heap.get?_push_of_some _ (Heap.get?_push_size _ rfl))
  rcases hl with ⟨ol, e, c, n, d⟩ | ⟨ol, e, c, n, d⟩
  · refine set_call (Res := fun h' => ∃ c, SetR w h' s.heap.objs.size (fun j => decide (j ∈ xs)) c ∧ c ≤ xs.length) hh e c F.sub_list_set F.sub_list_frozenset (by decide) (fun {_ _ s1 _} e1 h => wpAny_pyIter_list (s := s1) ⟨ol, e1, c, n, d⟩ h) (fun A' R tk ha hR => ?_) fun h' tk ⟨m, r1, r2⟩ k => q h' tk m r1 r2 k
    have lt := Heap.lt_size e
    obtain ⟨ne, nin, up⟩ := places (w := w) lt
    refine set_update_ints (s := { s with heap := (s.heap.push (S0 w)).push _, toks := tk }) ((Walks.list (A := A'.in1) (by simpa using ha) _ l ne its).toS) s.heap.objs.size nin xs len hb val (its.size - 0) 0 (by omega) (Nat.zero_le _)
      ⟨⟨_, Heap.get?_push_size _ rfl, rfl, rfl⟩, ⟨ol, lkp e, c, n, d⟩⟩ ⟨0, Nat.le_refl 0, start _⟩ fun s' c' mv r2 r1 => ?_
    obtain ⟨es, k⟩ := moved_end rfl up (fun b o z => lkp z) mv
    rw [es]
    exact hR _ _ ⟨c', r1, by omega⟩ k
  · refine set_call (Res := fun h' => ∃ c, SetR w h' s.heap.objs.size (fun j => decide (j ∈ xs)) c ∧ c ≤ xs.length) hh e c F.sub_tuple_set F.sub_tuple_frozenset (by decide) (fun {_ _ s1 _} e1 h => wpAny_pyIter_tuple (s := s1) ⟨ol, e1, c, n, d⟩ h) (fun A' R tk ha hR => ?_) fun h' tk ⟨m, r1, r2⟩ k => q h' tk m r1 r2 k
    have lt := Heap.lt_size e
    obtain ⟨ne, nin, up⟩ := places (w := w) lt
    refine set_update_ints (s := { s with heap := (s.heap.push (S0 w)).push _, toks := tk }) ((Walks.tuple (A := A'.in1) (by simpa using ha) _ l ne its).toS) s.heap.objs.size nin xs len hb val (its.size - 0) 0 (by omega) (Nat.zero_le _)
      ⟨⟨_, Heap.get?_push_size _ rfl, rfl, rfl⟩, ⟨ol, lkp e, c, n, d⟩⟩ ⟨0, Nat.le_refl 0, start _⟩ fun s' c' mv r2 r1 => ?_
    obtain ⟨es, k⟩ := moved_end rfl up (fun b o z => lkp z) mv
    rw [es]
    exact hR _ _ ⟨c', r1, by omega⟩ k
end
end St

namespace St
open PySem PySem.Spec PyProof.Rows L2 PySem.Froz
/-- the set of the texts m -/
def SetT (P : Program) (w : World) (a : Addr) (m : List Str) : HO := .ext fun h => TS P w h a m
theorem setT_new {P : Program} {w : World} {H : Hp} {h : Heap} {a : Addr} {m : List Str} (R : TS P w h a m) : ObjOk P w H h a (SetT P w a m) := by
  have ⟨D, e, _⟩ := R
  exact ⟨R, ⟨_, e⟩, fun h1 h2 p k => TS.at p k⟩
section
variable {X : Cx}
/-- what a list or a tuple holds -/
def SqX (K : PySem.W.Frag) (H : Hp) (a : Addr) (xs : List V) : Prop := SqL K H a xs ∨ SqT K H a xs
theorem inv_any {pins : List (Addr × Obj)} {σ : L2.St} {H : Hp} {s : Shared} {a : Addr} {xs : List V} (I : Inv X pins σ H s) (h : SqX X.K H a xs) : ∃ its : List Value, Vals xs its ∧ (s.heap.IsList a its.toArray ∨ s.heap.IsTuple a its.toArray) := by
  rcases h with h | h
  · obtain ⟨its, r, l, _⟩ := I.list h
    exact ⟨its, r, .inl l.isList⟩
  · obtain ⟨its, r, l, _⟩ := I.tuple h
    exact ⟨its, r, .inr l⟩
def rSetT (K : PySem.W.Frag) (P : Program) (w : World) : List V → Hp → VK → Prop := fun xs H Q => ∃ (l : Addr) (ns : List Str), xs = [.ref l] ∧ SqX K H l (ns.map V.str) ∧ ns.length ≤ 1000 ∧
  ∀ a m, H a = none → m.Nodup → m.length ≤ ns.length → (∀ x, x ∈ m ↔ x ∈ ns) → Q (.ref a) (upd H a (SetT P w a m))
theorem cr_setT (hc : X.calm = true) : CallR X (.type "set") (rSetT X.K X.prog X.w) := by
  intro pins s σ H xs us Q I r h
  obtain ⟨l, ns, rfl, hl, hb, q⟩ := h
  rw [Vals.ref1 r]
  obtain ⟨its, rv, hi⟩ := inv_any I hl
  refine set_texts (xs := ns) (I.ok.hd hc) hi (by simpa using rv.strs) (Nat.lt_of_le_of_lt (Nat.succ_le_succ hb) (by decide)) fun h' tk m R ml mm k => ?_
  obtain ⟨D, e, F, a3, a4, nd⟩ := id R
  exact ⟨.ref s.heap.objs.size, _, I.laid (t' := tk) k (Nat.le_refl _) (setT_new R), rfl, q _ m (I.hok.fresh (Nat.le_refl _)) nd ml mm⟩
def rSetI (K : PySem.W.Frag) (w : World) : List V → Hp → VK → Prop := fun xs H Q => ∃ (l : Addr) (ns : List Int), xs = [.ref l] ∧ SqX K H l (ns.map V.int) ∧ ns.length ≤ 1000 ∧
  ∀ a c, H a = none → c ≤ ns.length → Q (.ref a) (upd H a (SetO w a (fun j => decide (j ∈ ns)) c))
theorem cr_setI (hc : X.calm = true) : CallR X (.type "set") (rSetI X.K X.w) := by
  intro pins s σ H xs us Q I r h
  obtain ⟨l, ns, rfl, hl, hb, q⟩ := h
  rw [Vals.ref1 r]
  obtain ⟨its, rv, hi⟩ := inv_any I hl
  refine set_ints (xs := ns) (I.ok.hd hc) hi (by simpa using ints_of_vals rv) (Nat.lt_of_le_of_lt (Nat.succ_le_succ hb) (by decide)) fun h' tk c R cl k => ?_
  exact ⟨.ref s.heap.objs.size, _, I.laid (t' := tk) k (Nat.le_refl _) (setO_new R), rfl, q _ c (I.hok.fresh (Nat.le_refl _)) cl⟩
/-- sorted of a set of texts -/
def rSortT (P : Program) (w : World) : List V → Hp → VK → Prop := fun xs H Q => ∃ (a : Addr) (m : List Str), xs = [.ref a] ∧ H a = some (SetT P w a m) ∧ m.length ≤ 1000 ∧
  ∀ ys p, ys.Perm m → sortedS ys = true → H p = none → Q (.ref p) (upd H p (.lst (ys.map V.str)))
theorem strs_of : ∀ l : List Value, (∀ v ∈ l, ∃ x t, v = Value.str x t) → ∃ xs, StrsAre l xs
  | [], _ => ⟨[], .nil⟩
  | v :: l, h => by
    obtain ⟨x, t, rfl⟩ := h v List.mem_cons_self
    obtain ⟨xs, r⟩ := strs_of l fun u hu => h u (List.mem_cons_of_mem _ hu)
    exact ⟨x :: xs, .cons x t r⟩
theorem strs_vals : ∀ {l : List Value} {xs : List Str}, StrsAre l xs → ∀ x, x ∈ xs ↔ ∃ t, Value.str x t ∈ l
  | _, _, .nil => fun x => by simp
  | _, _, .cons y t r => fun x => by
    rw [List.mem_cons, strs_vals r x]
    constructor
    · rintro (rfl | ⟨u, hu⟩)
      · exact ⟨t, List.mem_cons_self⟩
      · exact ⟨u, List.mem_cons_of_mem _ hu⟩
    · rintro ⟨u, hu⟩
      rcases List.mem_cons.mp hu with z | z
      · cases z; exact .inl rfl
      · exact .inr ⟨u, z⟩
theorem perm_of : ∀ {b a : List Str}, b.Nodup → a.length = b.length → (∀ x, x ∈ b → x ∈ a) → a.Perm b
  | [], a, _, hl, _ => by
    obtain rfl : a = [] := List.length_eq_zero_iff.mp hl
    exact .refl _
  | x :: b, a, nd, hl, h => by
    obtain ⟨n1, n2⟩ := List.nodup_cons.mp nd
    have hx : x ∈ a := h x List.mem_cons_self
    have pe := List.perm_cons_erase hx
    refine pe.trans (.cons x (perm_of n2 ?_ fun y hy => ?_))
    · have := pe.length_eq
      rw [List.length_cons] at this hl
      omega
    · have ne : y ≠ x := fun z => n1 (z ▸ hy)
      exact (List.mem_erase_of_ne ne).mpr (h y (List.mem_cons_of_mem _ hy))
theorem cr_sortT (hc : X.calm = true) : CallR X (.builtin "sorted") (rSortT X.prog X.w) := by
  intro pins s σ H xs us Q I r h
  obtain ⟨a, m, rfl, ha, hb, q⟩ := h
  rw [Vals.ref1 r]
  obtain ⟨⟨es, ep, t⟩, e, F, ris, led, nd⟩ := id (show TS X.prog X.w s.heap a m from (I.hok a _ ha).1)
  have sz : es.size = m.length := F.sz
  have room : es.size < scanBound := by rw [sz]; exact Nat.lt_of_le_of_lt hb (by decide)
  refine Calls.call_function_entry kind_sorted plain_sorted entry_sorted (args_sorted1 _) ?_; unfold Builtin.«sorted»
  refine wpAny_bind (m := checkCount "sorted" 1 1 _) (wpAny_pure (wpAny_bind (collect_set (A := X.A.in1) (I.ok.hd hc) ⟨_, e, rfl, rfl⟩ F.fit room ris led fun s1 vs k1 z1 g1 o1 pm => ?_)))
  have vl : vs.length = m.length := by rw [pm.length_eq, List.length_map, Array.length_toList, sz]
  obtain ⟨ss, hS⟩ := strs_of vs fun v hv => by
    obtain ⟨x, hx, rfl⟩ := List.mem_map.mp (pm.mem_iff.mp hv)
    obtain ⟨⟨k, hk, _⟩, _⟩ := F.el x hx
    obtain ⟨u, hu⟩ := Value.isStrOf_shape (show Value.isStrOf k x.2 = true from hk)
    exact ⟨k, u, hu⟩
  have sm : ss.Perm m := perm_of nd (by rw [← hS.len_eq, vl]) fun x hx => by
    obtain ⟨y, hy, hk⟩ := (F.mem x).mp hx
    obtain ⟨u, hu⟩ := Value.isStrOf_shape (show Value.isStrOf x y.2 = true from hk)
    exact (strs_vals hS x).mpr ⟨u, hu ▸ pm.mem_iff.mpr (List.mem_map.mpr ⟨y, hy, rfl⟩)⟩
  have line : vs.length ≤ sizeLine := by rw [vl, sizeLine_eq]; omega
  refine wpAny_bind (wpAny_newList ?_ line)
  have hoL : (s1.heap.push (seqObj "list" vs.toArray 0)).get? s1.heap.objs.size = some (seqObj "list" vs.toArray 0) := Heap.get?_push_size _ rfl
  refine wpAny_bind (wpAny_holding (wpAny_call_entry PyProof.Rows.slot_list_sort ⟨_, hoL, rfl⟩ PyProof.Rows.entry_list_sort (list_sort_treeKAny strKind_oneLt hoL hS.keysOf (fun v1 v2 rest z => keyKind_strs (by rw [← z]; exact hS)) line fun st hp hs => ⟨_, rfl, ?_⟩) (PyProof.Rows.args_list_sort _)))
  obtain ⟨ys, y1, y2, y3⟩ := sorted_out_str hS hp hs
  obtain ⟨c, hcx⟩ := sortedHeap_at (vs := vs) (out := (arrOf st).map (·.2)) hoL
  have old : ∀ b u, s.heap.get? b = some u → (sortedHeap (s1.heap.push (seqObj "list" vs.toArray 0)) s1.heap.objs.size vs ((arrOf st).map (·.2))).get? b = some u := fun b u eb => by
    have q1 := k1 b u eb
    rw [sortedHeap_old (Nat.ne_of_lt (Heap.lt_size q1)) (by rw [size_push']; exact Nat.lt_succ_of_lt (Heap.lt_size q1))]
    exact Heap.get?_push_of_some _ q1
  have zl : (ys.map V.str).length ≤ sizeLine := by rw [List.length_map, (y2.trans sm).length_eq, sizeLine_eq]; omega
  have hn : H s1.heap.objs.size = none := I.hok.fresh z1
  have J : Inv X pins σ (upd H s1.heap.objs.size (.lst (ys.map V.str))) { s with heap := sortedHeap (s1.heap.push (seqObj "list" vs.toArray 0)) s1.heap.objs.size vs ((arrOf st).map (·.2)), gens := s1.gens, drawn := s1.drawn, toks := s1.toks } :=
    I.call (ch := []) (Un.laid old z1 hn) (I.hok.laid old z1 ⟨zl, ((arrOf st).map (·.2)).toList, c, vals_of_strs y1, hcx⟩) (by rw [g1]; exact I.bare) (fun _ z => nomatch z)
  refine wpAny_pure ⟨_, rfl, .ref s1.heap.objs.size, _, ?_, rfl, q ys _ (y2.trans sm) y3 hn⟩
  cases s1; cases s; dsimp only at o1; subst o1
  exact J
end
end St

namespace St
open PySem PySem.Spec PyProof.Rows L2 PySem.Froz
/-! ### lots: what sorted(set(..)) is -/
def sLt (a b : Str) : Prop := a.cps.toList < b.cps.toList
instance (a b : Str) : Decidable (sLt a b) := inferInstanceAs (Decidable (_ < _))
theorem sLt_irr (a : Str) : ¬ sLt a a := List.lt_irrefl _
theorem sLt_tr {a b c : Str} (h : sLt a b) (k : sLt b c) : sLt a c := List.lt_trans h k
theorem sLt_as {a b : Str} (h : sLt a b) : ¬ sLt b a := fun k => sLt_irr a (sLt_tr h k)
theorem sLt_eq {a b : Str} (h : ¬ sLt a b) (k : ¬ sLt b a) : a = b := by
  have e : a.cps.toList = b.cps.toList := List.le_antisymm (List.not_lt.mp k) (List.not_lt.mp h)
  cases a; cases b
  exact congrArg Str.mk (Array.toList_inj.mp e)
section
variable {α : Type} (lt : α → α → Prop) [DecidableRel lt] [DecidableEq α]
def ins (x : α) : List α → List α
  | [] => [x]
  | y :: r => if x = y then y :: r else if lt x y then x :: y :: r else y :: ins x r
def lotBy : List α → List α
  | [] => []
  | x :: r => ins lt x (lotBy r)
theorem mem_ins {x y : α} : ∀ {l : List α}, y ∈ ins lt x l ↔ y = x ∨ y ∈ l
  | [] => by simp [ins]
  | z :: r => by
    unfold ins
    split
    · rename_i h; subst h; simp
    · split
      · simp
      · rw [List.mem_cons, mem_ins (l := r), List.mem_cons]
        exact ⟨fun h => h.elim (fun h => .inr (.inl h)) fun h => h.elim .inl fun h => .inr (.inr h), fun h => h.elim (fun h => .inr (.inl h)) fun h => h.elim .inl fun h => .inr (.inr h)⟩
theorem mem_lotBy {y : α} : ∀ {l : List α}, y ∈ lotBy lt l ↔ y ∈ l
  | [] => Iff.rfl
  | x :: r => by rw [lotBy, mem_ins, mem_lotBy (l := r), List.mem_cons]
theorem asc_ins (tri : ∀ a b, ¬ lt a b → ¬ a = b → lt b a) (tr : ∀ a b c, lt a b → lt b c → lt a c) {x : α} : ∀ {l : List α}, l.Pairwise lt → (ins lt x l).Pairwise lt
  | [], _ => List.pairwise_singleton _ _
  | y :: r, h => by
    obtain ⟨h1, h2⟩ := List.pairwise_cons.mp h
    unfold ins
    split
    · exact h
    · rename_i ne
      split
      · rename_i lxy
        exact List.pairwise_cons.mpr ⟨fun z hz => (List.mem_cons.mp hz).elim (fun e => e ▸ lxy) fun hz => tr _ _ _ lxy (h1 z hz), h⟩
      · rename_i nl
        refine List.pairwise_cons.mpr ⟨fun z hz => ?_, asc_ins tri tr h2⟩
        rcases (mem_ins lt).mp hz with rfl | hz
        · exact tri _ _ nl ne
        · exact h1 z hz
theorem asc_lotBy (tri : ∀ a b, ¬ lt a b → ¬ a = b → lt b a) (tr : ∀ a b c, lt a b → lt b c → lt a c) : ∀ l : List α, (lotBy lt l).Pairwise lt
  | [] => .nil
  | x :: r => asc_ins lt tri tr (asc_lotBy tri tr r)
theorem len_ins (x : α) : ∀ l : List α, (ins lt x l).length ≤ l.length + 1
  | [] => Nat.le_refl _
  | y :: r => by
    unfold ins
    split
    · exact Nat.le_succ _
    · split
      · exact Nat.le_refl _
      · exact Nat.succ_le_succ (len_ins x r)
theorem len_lotBy : ∀ l : List α, (lotBy lt l).length ≤ l.length
  | [] => Nat.le_refl _
  | x :: r => Nat.le_trans (len_ins lt x _) (Nat.succ_le_succ (len_lotBy r))
theorem asc_eq (irr : ∀ a, ¬ lt a a) (tr : ∀ a b c, lt a b → lt b c → lt a c) : ∀ {l m : List α}, l.Pairwise lt → m.Pairwise lt → (∀ x, x ∈ l ↔ x ∈ m) → l = m
  | [], [], _, _, _ => rfl
  | [], y :: m, _, _, h => absurd ((h y).mpr List.mem_cons_self) (by simp)
  | x :: l, [], _, _, h => absurd ((h x).mp List.mem_cons_self) (by simp)
  | x :: l, y :: m, hl, hm, h => by
    obtain ⟨l1, l2⟩ := List.pairwise_cons.mp hl
    obtain ⟨m1, m2⟩ := List.pairwise_cons.mp hm
    have e : x = y := by
      rcases List.mem_cons.mp ((h x).mp List.mem_cons_self) with z | z
      · exact z
      · rcases List.mem_cons.mp ((h y).mpr List.mem_cons_self) with u | u
        · exact u.symm
        · exact absurd (tr _ _ _ (m1 x z) (l1 y u)) (irr _)
    subst e
    rw [asc_eq irr tr l2 m2 fun z => ?_]
    constructor
    · intro hz
      rcases List.mem_cons.mp ((h z).mp (List.mem_cons_of_mem _ hz)) with e | e
      · subst e; exact absurd (l1 z hz) (irr z)
      · exact e
    · intro hz
      rcases List.mem_cons.mp ((h z).mpr (List.mem_cons_of_mem _ hz)) with e | e
      · subst e; exact absurd (m1 z hz) (irr z)
      · exact e
end
/-- the lot of texts, of ints -/
def lotS (l : List Str) : List Str := lotBy sLt l
def lotI (l : List Int) : List Int := lotBy (· < ·) l
theorem mem_lotS {x : Str} {l : List Str} : x ∈ lotS l ↔ x ∈ l := mem_lotBy _
theorem mem_lotI {x : Int} {l : List Int} : x ∈ lotI l ↔ x ∈ l := mem_lotBy _
theorem asc_lotS (l : List Str) : (lotS l).Pairwise sLt := asc_lotBy _ (fun a b h k => Decidable.byContradiction fun z => k (sLt_eq h z)) (fun _ _ _ => sLt_tr) l
theorem asc_lotI (l : List Int) : (lotI l).Pairwise (· < ·) := asc_lotBy _ (fun a b h k => (Int.lt_trichotomy a b).elim (absurd · h) fun z => z.elim (absurd · k) id) (fun _ _ _ => Int.lt_trans) l
theorem len_lotS (l : List Str) : (lotS l).length ≤ l.length := len_lotBy _ l
theorem len_lotI (l : List Int) : (lotI l).length ≤ l.length := len_lotBy _ l
theorem lotS_eq {ys l : List Str} (h : ys.Pairwise sLt) (m : ∀ x, x ∈ ys ↔ x ∈ l) : ys = lotS l := asc_eq sLt sLt_irr (fun _ _ _ => sLt_tr) h (asc_lotS l) fun x => (m x).trans mem_lotS.symm
theorem lotI_eq {ys l : List Int} (h : ys.Pairwise (· < ·)) (m : ∀ x, x ∈ ys ↔ x ∈ l) : ys = lotI l := asc_eq (· < ·) (fun _ => Int.lt_irrefl _) (fun _ _ _ => Int.lt_trans) h (asc_lotI l) fun x => (m x).trans mem_lotI.symm
theorem lotS_congr {l m : List Str} (h : ∀ x, x ∈ l ↔ x ∈ m) : lotS l = lotS m := lotS_eq (asc_lotS l) fun x => mem_lotS.trans (h x)
theorem lotI_congr {l m : List Int} (h : ∀ x, x ∈ l ↔ x ∈ m) : lotI l = lotI m := lotI_eq (asc_lotI l) fun x => mem_lotI.trans (h x)
theorem lotS_idem (l : List Str) : lotS (lotS l) = lotS l := lotS_congr fun _ => mem_lotS
theorem asc_nodupS {l : List Str} (h : l.Pairwise sLt) : l.Nodup := List.Pairwise.imp (S := (· ≠ ·)) (fun {a b} (k : sLt a b) (z : a = b) => sLt_irr b (z ▸ k)) h
theorem ris_asc : ∀ {l : List Str} {p : Str}, risingS p l = true → (p :: l).Nodup → (p :: l).Pairwise sLt
  | [], p, _, _ => List.pairwise_singleton _ _
  | x :: r, p, h, nd => by
    obtain ⟨h1, h2⟩ := Bool.and_eq_true_iff.mp (show (!ltCps x.cps.toList p.cps.toList && risingS x r) = true from h)
    obtain ⟨n1, n2⟩ := List.nodup_cons.mp nd
    have a := ris_asc h2 n2
    rw [ltCps_eq, Bool.not_eq_true'] at h1
    have nl : ¬ sLt x p := of_decide_eq_false h1
    have lp : sLt p x := Decidable.byContradiction fun z => n1 (by rw [sLt_eq z nl]; exact List.mem_cons_self)
    exact List.pairwise_cons.mpr ⟨fun z hz => (List.mem_cons.mp hz).elim (fun e => e ▸ lp) fun hz => sLt_tr lp ((List.pairwise_cons.mp a).1 z hz), a⟩
theorem sorted_asc {l : List Str} (h : sortedS l = true) (nd : l.Nodup) : l.Pairwise sLt := match l, h, nd with
  | [], _, _ => .nil
  | _ :: _, h, nd => ris_asc h nd
/-! ### the rules of tuple(sorted(set(x))) -/
section
variable {X : Cx}
theorem cr_or {f : Value} {r1 r2 : List V → Hp → VK → Prop} (a : CallR X f r1) (b : CallR X f r2) : CallR X f (fun xs H Q => r1 xs H Q ∨ r2 xs H Q) := fun pins s σ H xs us Q I r h => h.elim (a pins s σ H xs us Q I r) (b pins s σ H xs us Q I r)
@[irreducible] def rSet (K : PySem.W.Frag) (P : Program) (w : World) : List V → Hp → VK → Prop := fun xs H Q => rSetT K P w xs H Q ∨ rSetI K w xs H Q
@[irreducible] def rSorted2 (P : Program) (w : World) : List V → Hp → VK → Prop := fun xs H Q => rSortT P w xs H Q ∨ rSortedSet w xs H Q
theorem cr_set (hc : X.calm = true) : CallR X (.type "set") (rSet X.K X.prog X.w) := by unfold rSet; exact cr_or (cr_setT hc) (cr_setI hc)
theorem cr_sorted2 (hc : X.calm = true) : CallR X (.builtin "sorted") (rSorted2 X.prog X.w) := by unfold rSorted2; exact cr_or (cr_sortT hc) (cr_sortedSet hc)
end
/-- the reading of tuple(sorted(set(x))) -/
theorem rd_lotS {K : PySem.W.Frag} {P : Program} {w : World} {H : Hp} {a : Addr} {ns : List Str} {Q : VK} (h : SqX K H a (ns.map V.str)) (hl : ns.length ≤ 1000) (q : ∀ p H', Same H H' → H' p = some (.tup ((lotS ns).map V.str)) → Q (.ref p) H') :
    rSet K P w [.ref a] H fun u H1 => rSorted2 P w [u] H1 fun z H2 => ∃ p ys, [z] = [V.ref p] ∧ ((SqL K H2 p ys ∧ ∀ l, H2 l = none → Q (.ref l) (upd H2 l (.tup ys))) ∨ (SqT K H2 p ys ∧ Q (.ref p) H2)) := by
  unfold rSet
  refine .inl ⟨a, ns, rfl, h, hl, fun b m hb nd ml mm => ?_⟩
  unfold rSorted2
  refine .inl ⟨b, m, rfl, upd_same, Nat.le_trans ml hl, fun ys p pm so hp => ⟨p, ys.map V.str, rfl, .inl ⟨SqL.of upd_same, fun l hn => ?_⟩⟩⟩
  have e : ys = lotS ns := lotS_eq (sorted_asc so (pm.nodup_iff.mpr nd)) fun x => pm.mem_iff.trans (mm x)
  rw [e] at hn ⊢
  have s1 : Same H (upd H b (SetT P w b m)) := fun c o e => by rw [upd_ne (ne_of_none e hb)]; exact e
  have s2 : Same (upd H b (SetT P w b m)) (upd (upd H b (SetT P w b m)) p (.lst ((lotS ns).map V.str))) := fun c o e => by rw [upd_ne (ne_of_none e hp)]; exact e
  have s3 : Same (upd (upd H b (SetT P w b m)) p (.lst ((lotS ns).map V.str))) (upd (upd (upd H b (SetT P w b m)) p (.lst ((lotS ns).map V.str))) l (.tup ((lotS ns).map V.str))) := fun c o e => by rw [upd_ne (ne_of_none e hn)]; exact e
  exact q l _ (fun c o e => s3 c o (s2 c o (s1 c o e))) upd_same
theorem rd_lotI {K : PySem.W.Frag} {P : Program} {w : World} {H : Hp} {a : Addr} {ns : List Int} {Q : VK} (h : SqX K H a (ns.map V.int)) (hl : ns.length < 64) (q : ∀ p H', Same H H' → H' p = some (.tup ((lotI ns).map V.int)) → Q (.ref p) H') :
    rSet K P w [.ref a] H fun u H1 => rSorted2 P w [u] H1 fun z H2 => ∃ p ys, [z] = [V.ref p] ∧ ((SqL K H2 p ys ∧ ∀ l, H2 l = none → Q (.ref l) (upd H2 l (.tup ys))) ∨ (SqT K H2 p ys ∧ Q (.ref p) H2)) := by
  unfold rSet
  refine .inr ⟨a, ns, rfl, h, Nat.le_trans (Nat.le_of_lt hl) (by decide), fun b c hb cl => ?_⟩
  unfold rSorted2
  refine .inr ⟨b, _, c, rfl, upd_same, Nat.lt_of_le_of_lt cl hl, fun ys p so mm _ hp => ⟨p, ys.map V.int, rfl, .inl ⟨SqL.of upd_same, fun l hn => ?_⟩⟩⟩
  have e : ys = lotI ns := lotI_eq so fun x => (mm x).trans decide_eq_true_iff
  rw [e] at hn ⊢
  have s1 : Same H (upd H b (SetO w b (fun j => decide (j ∈ ns)) c)) := fun d o e => by rw [upd_ne (ne_of_none e hb)]; exact e
  refine q l _ (fun d o e => ?_) upd_same
  have e1 := s1 d o e
  rw [upd_ne (ne_of_none (by rw [upd_ne (ne_of_none e1 hp)]; exact e1) hn), upd_ne (ne_of_none e1 hp)]
  exact e1
end St

/-! own classes of the text: made, their methods, their == -/
namespace Ow
open PySem PySem.Spec PyProof.Rows L2 Hb
/-- a class of the text, made by its __init__'s promise -/
structure Cm (P : Program) (w : World) (K : PySem.W.Frag) (mg : Str → Option Value) (base : Heap) (x : Str) (C : Addr) (ps : List Str) (lv : Nat) (sp : Sp) : Prop where
  ex : ∃ (f : Addr) (fd : FuncData), Mk K C f ∧ FnOk P w K mg base CX0 lv f fd ps sp ∧ mg x = some (.ref C) ∧ Binds K fd ps []
/-- a class made by keywords alone: its parameters behind self in the order of gV -/
structure CmK (P : Program) (w : World) (K : PySem.W.Frag) (mg : Str → Option Value) (base : Heap) (x : Str) (C : Addr) (ps ks : List Str) (gV : List V → List V → List V) (lv : Nat) (sp : Sp) : Prop where
  ex : ∃ (f : Addr) (fd : FuncData) (g : List Value → List Value → List Value), Mk K C f ∧ FnOk P w K mg base CX0 lv f fd ps sp ∧ mg x = some (.ref C) ∧ KBn K fd ps 1 ks g gV
/-- a method of an own class -/
structure Ch (P : Program) (w : World) (K : PySem.W.Frag) (mg : Str → Option Value) (base : Heap) (C : Addr) (m : Str) (ps : List Str) (dvs : List V) (lv : Nat) (sp : Sp) : Prop where
  ex : ∃ (f : Addr) (fd : FuncData) (ds : List Value), Meth K C m f ∧ FnOk P w K mg base CX0 lv f fd ps sp ∧ Binds K fd ps ds ∧ Vals dvs ds
structure ChK (P : Program) (w : World) (K : PySem.W.Frag) (mg : Str → Option Value) (base : Heap) (C : Addr) (m : Str) (ps ks : List Str) (gV : List V → List V → List V) (lv : Nat) (sp : Sp) : Prop where
  ex : ∃ (f : Addr) (fd : FuncData) (g : List Value → List Value → List Value), Meth K C m f ∧ FnOk P w K mg base CX0 lv f fd ps sp ∧ KBn K fd ps 1 ks g gV
section
variable {X : Cx} {C : Addr} {ps ks : List Str} {gV : List V → List V → List V} {dvs : List V} {lv : Nat} {sp : Sp} {x m : Str} {p pos apos : Pos} {e o : Expr} {es : List Expr} {kws : List Keyword} {t tk : TA} {ta : TE}
theorem pe_new (M : Cm X.prog X.w X.K X.mg X.base x C ps lv sp) (hr : Room (lv + 1) X.A) (hg : Gl X x) (ha : PA X (e :: es) t) (hdb : (x == ("__debug__" : Str)) = false := by decide)
    (he : starEach (e :: es) X.env = (false, eval e X.env) :: starEach es X.env := by rfl) (hpl : (backTo pos (starEach es X.env)).any (·.1) = false := by rfl) : PE X (.Call (.Name x p) (e :: es) [] pos) (tMake C sp [] E0 t) := by
  obtain ⟨f, fd, mk, F, hm, hb⟩ := M.ex
  exact pe_make mk F hr hg hm hb .nil pass0 ha hdb he hpl
theorem pe_newK (M : CmK X.prog X.w X.K X.mg X.base x C ps ks gV lv sp) (hr : Room (lv + 1) X.A) (hg : Gl X x) (hkw : PK X kws tk)
    (hall : (backToKw pos (keywordEach kws X.env)).all (·.1.isSome) = true := by rfl) (hks : (backToKw pos (keywordEach kws X.env)).filterMap (·.1) = ks := by rfl) (hdb : (x == ("__debug__" : Str)) = false := by decide)
    (hpl : ((backTo pos (starEach [] X.env)).any (·.1) || (backToKw pos (keywordEach kws X.env)).any (·.1.isNone)) = false := by rfl) : PE X (.Call (.Name x p) [] kws pos) (tMakeK C 0 ks.length sp gV E0 tNil tk) := by
  obtain ⟨f, fd, g, mk, F, hm, hb⟩ := M.ex
  exact pe_makeK0 mk F hr hg hm hb pass0 hkw hall hks hdb hpl
theorem pe_do {pl : Sem Bool} (M : Ch X.prog X.w X.K X.mg X.base C m ps dvs lv sp) (c : Cls X.K C) (hr : Room lv X.A) (ho : PE X o ta) (ha : PA X (e :: es) t)
    (hst : starEach (e :: es) X.env = (false, eval e X.env) :: starEach es X.env := by rfl) (hpl : (backTo pos (starEach es X.env)).any (·.1) = false := by rfl)
    (ht : eval (.Call (.Attribute o m apos) (e :: es) [] pos) X.env = (do
      let v ← eval o X.env
      standAt apos.atName
      let (f, first) ← holding [v] (getMethod v m pl)
      callWith pos f first (backTo pos (starEach (e :: es) X.env)) (backToKw pos (keywordEach [] X.env))) := by rfl) : PE X (.Call (.Attribute o m apos) (e :: es) [] pos) (tMeth C m sp dvs E0 ta t) := by
  obtain ⟨f, fd, ds, hm, F, hb, hd⟩ := M.ex
  exact pe_meth ho c hm F hr hb hd pass0 ha hst hpl ht
theorem pe_do0 {pl : Sem Bool} (M : Ch X.prog X.w X.K X.mg X.base C m ps dvs lv sp) (c : Cls X.K C) (hr : Room lv X.A) (ho : PE X o ta)
    (ht : eval (.Call (.Attribute o m apos) [] [] pos) X.env = (do
      let v ← eval o X.env
      standAt apos.atName
      let (f, first) ← holding [v] (getMethod v m pl)
      callWith pos f first (backTo pos (starEach [] X.env)) (backToKw pos (keywordEach [] X.env))) := by rfl) : PE X (.Call (.Attribute o m apos) [] [] pos) (tMeth C m sp dvs E0 ta tNil) := by
  obtain ⟨f, fd, ds, hm, F, hb, hd⟩ := M.ex
  exact pe_meth0 ho c hm F hr hb hd pass0 ht
/-- o.m(k = v, ..) -/
def tMethK (C : Addr) (m : Str) (n : Nat) (sp : Sp) (gV : List V → List V → List V) (ta : TE) (tk : TA) : TE := fun σ H Q => ta σ H fun x H1 => ∃ a dx fs, x = .ref a ∧ H1 a = some (.ins C dx fs) ∧ fs.lookup m = none ∧ tk σ H1 fun zs H2 => zs.length = n ∧ sp (gV [x] zs) H2 Q E0
theorem pe_doK {pl : Sem Bool} (M : ChK X.prog X.w X.K X.mg X.base C m ps ks gV lv sp) (c : Cls X.K C) (hr : Room lv X.A) (ho : PE X o ta) (hkw : PK X kws tk)
    (hall : (backToKw pos (keywordEach kws X.env)).all (·.1.isSome) = true := by rfl) (hks : (backToKw pos (keywordEach kws X.env)).filterMap (·.1) = ks := by rfl)
    (hpl : ((backTo pos (starEach [] X.env)).any (·.1) || (backToKw pos (keywordEach kws X.env)).any (·.1.isNone)) = false := by rfl)
    (ht : eval (.Call (.Attribute o m apos) [] kws pos) X.env = (do
      let v ← eval o X.env
      standAt apos.atName
      let (f, first) ← holding [v] (getMethod v m pl)
      callWith pos f first (backTo pos (starEach [] X.env)) (backToKw pos (keywordEach kws X.env))) := by rfl) : PE X (.Call (.Attribute o m apos) [] kws pos) (tMethK C m ks.length sp gV ta tk) := by
  obtain ⟨f, fd, g, hm, F, hb⟩ := M.ex
  refine ⟨fun pins s σ H Q I h => ?_⟩
  refine PySem.W.methodCall_KW (pl := pl) (thn (ho.run pins s σ H _ I h) fun u s1 ⟨x, H1, I1, rx, a, dx, fs, ex, ea, l, q⟩ => ?_) ht
  subst ex; obtain rfl : u = Value.ref a := rx
  refine getmeth_ok I1 ea c hm l ?_
  refine PySem.W.callWith_KW0 (first := [.ref a]) (h₀ := X.base) I1.ok.mod.kin hm.kp hall (thn (hkw.run pos pins s1 σ H1 _ I1 q) fun ws s2 ⟨zs, H2, I2, rz, l1, q2⟩ => ⟨I2.kIn, ?_⟩) hpl
  rw [hks]
  exact run_fnN (us := [.ref a]) (vs := [.ref a]) F hr hb pass0 I2 (.cons rfl .nil) rz rfl l1 q2
end
/-! ### == by an own __eq__, whatever it answers -/
def rEqOwn (C : Addr) (sp : Sp) : R2 := fun x y H Q => ∃ a dx fs b, x = .ref a ∧ y = .ref b ∧ H a = some (.ins C dx fs) ∧ ((∃ dy gs, H b = some (.ins C dy gs)) ∨ ∃ xs, H b = some (.lst xs)) ∧ sp [x, y] H (fun v H' => (∃ k, v = .bl k) ∧ Q v H') E0
theorem op_eqOwn {X : Cx} {C : Addr} {ps : List Str} {lv : Nat} {sp : Sp} (M : Ch X.prog X.w X.K X.mg X.base C "__eq__" ps [] lv sp) (kl : PySem.W.subIn X.K (.type "list") (.ref C) = some false) (hr : Room lv X.A) : OpR X (compareOp .Eq) (rEqOwn C sp) := by
  obtain ⟨f, fd, ds, hm, F, hb, hd⟩ := M.ex
  cases hd
  intro pins s σ H x y v u Q I rx ry h
  obtain ⟨a, dx, fs, b, rfl, rfl, ha, hy, q⟩ := h
  cases rx; cases ry
  obtain ⟨mA, J, _⟩ := ins_get I.hok ha
  obtain ⟨od, J, _⟩ := J.look
  obtain ⟨m, hF⟩ := I.fr
  have run : wpAny (model X.prog X.w) X.A (call (.ref f) [.ref a, .ref b]) (PySem.W.CmpBack (EP X pins σ Q)) X.xe s := by
    have hl := F.len _ _ _ _ q
    have bb := hb s [.ref a, .ref b] I.kIn (by simpa using hl)
    refine wpAny_call (codeAny_mono (F.run X.A X.stack s H ⟨[.ref a, .ref b], []⟩ [.ref a, .ref b] [.ref a, .ref b] _ E0 hr I.env0 (by simpa using bb) (.cons rfl (.cons rfl .nil)) q) fun r s' z => ?_)
    rcases r with e | (_ | _ | _ | w)
    · exact pass0 pins σ H s e s' I z
    · exact False.elim z
    · exact False.elim z
    · exact False.elim z
    · obtain ⟨v, H', I', rv, ⟨k, rfl⟩, q'⟩ := I.after z
      obtain rfl : w = Value.bool k := rv
      exact ⟨.bl k, H', I', rfl, q'⟩
  show wpAny (model X.prog X.w) X.A (richCompare .Eq (.ref a) (.ref b)) (EP X pins σ Q) X.xe s
  rcases hy with ⟨dy, gs, hy⟩ | ⟨xs, hy⟩
  · obtain ⟨mB, J', _⟩ := ins_get I.hok hy
    obtain ⟨od', J', _⟩ := J'.look
    exact PySem.W.cmp_K (op := .Eq) (tb := .ref C) hr.units0 hF I.ok.mod.kin J J'.type (by simp [PySem.W.notFirst]) hm.at_ hm.fn run
  · obtain ⟨z, its, n, r, e⟩ := I.hok b _ hy
    exact PySem.W.cmp_K (op := .Eq) (tb := .type "list") hr.units0 hF I.ok.mod.kin J (fun A Q E s' k q => wpAny_typeOf (T := "list") ⟨_, k _ _ e, rfl⟩ q) (by simp [PySem.W.notFirst, kl]) hm.at_ hm.fn run
/-! ### xs[::n], n reckoned as -1 -/
theorem pe_rev {X : Cx} {e st : Expr} {te ts : TE} {p3 pos : Pos} (he : PE X e te) (hs : PE X st ts) (hN : ∀ σ H (Q : VK), Q (.int (-1)) H → ts σ H Q) :
    PE X (.Subscript e (.Slice none none (some st) p3) pos) (fun σ H Q => te σ H fun x H1 => ∃ a xs, x = .ref a ∧ SqL X.K H1 a xs ∧ ∀ p, H1 p = none → Q (.ref p) (upd H1 p (.lst xs.reverse))) := by
  refine ⟨fun pins s σ H Q I h => Subscript_ (thn (he.run pins s σ H _ I h) fun v s1 ⟨x, H1, I1, r1, a, xs, ex, hx, q⟩ => ?_)⟩
  subst ex; cases r1
  refine wpAny_Slice (thn (po_none.run pins s1 σ H1 (fun o H2 => o = none ∧ H2 = H1) I1 ⟨rfl, rfl⟩) fun vl s2 ⟨l, H2, I2, pl, el, e2⟩ => ?_)
  subst el e2
  refine thn (po_none.run pins s2 σ H2 (fun o H3 => o = none ∧ H3 = H2) I2 ⟨rfl, rfl⟩) fun vu s3 ⟨u, H3, I3, pu, eu, e3⟩ => ?_
  subst eu e3
  refine thn ((po_some hs).run pins s3 σ H3 (fun o H4 => o = some (-1) ∧ H4 = H3) I3 (hN σ H3 _ ⟨-1, rfl, rfl, rfl⟩)) fun vs s4 ⟨o, H4, I4, ps, eo, e4⟩ => ?_
  subst eo e4
  have I5 : Inv X pins σ H4 { s4 with heap := s4.heap.push { cls := .type "slice", data := .fields #[vl, vu, vs] } } := I4.kept (t' := s4.toks) fun b ob q => Heap.get?_push_of_some _ q
  obtain ⟨its, r, ht, hz⟩ := I5.list hx
  have hlen := r.length
  show wpAny (model X.prog X.w) X.A (subscriptTail e (.Slice none none (some st) p3) (.ref a) (.ref s4.heap.objs.size)) (EP X pins σ Q) X.xe { s4 with heap := s4.heap.push { cls := .type "slice", data := .fields #[vl, vu, vs] } }
  refine tail_any (ops := [.ref a, .ref s4.heap.objs.size]) ht.isList.typeIs (PySem.slot_list_getitem.lookup) ?_ (by with_unfolding_all rfl)
  refine wpAny_getItem_list_slice ht.isList (Heap.IsSliceOf.new _ vl vu vs) pl pu ps (by decide) ?_ (by rw [List.size_toArray]; omega)
  rw [PySem.W.krv_pick]
  exact ⟨.ref _, _, I5.laid (t' := s4.toks) (o := .lst xs.reverse) (fun b ob q => Heap.get?_push_of_some _ q) (Nat.le_refl _) ⟨by rw [List.length_reverse]; exact hz, _, 0, r.reverse, Heap.get?_push_size _ rfl⟩, rfl, q _ (I5.hok.fresh (Nat.le_refl _))⟩
/-- o.f within a comprehension -/
theorem pe_fldK {X : Cx} {e : Expr} {f : Str} {pos : Pos} {ta : TE} (K : PySem.W.Frag) (he : PE X e ta) (hb : attributeBase e f X.env (eval e X.env) = eval e X.env) (hK : X.K = K := by rfl) : PE X (.Attribute e f pos) (tFld K ta f) := by
  subst hK
  exact pe_fld he hb
end Ow

namespace Ow
open PySem PySem.Spec PyProof.Rows L2 Hb
/-- {k: v}, k a tuple of ints and texts -/
def tDisp1 (tk tv : TE) : TE := fun σ H Q => ∀ p, H p = none → tk σ (upd H p (.dT [])) fun x H1 => tv σ H1 fun y H2 => H2 p = some (.dT []) ∧ ∃ (k : List Key) (b : Addr), x = .ref b ∧ H2 b = some (.tup (k.map kV)) ∧ Q (.ref p) (upd H2 p (.dT [(k, y)]))
theorem pe_disp1T {X : Cx} {k v : Expr} {tk tv : TE} {pos : Pos} (hu : X.A.units + 1 < cLine) (hk : PE X k tk) (hv : PE X v tv) : PE X (.Dict [some k] [v] pos) (tDisp1 tk tv) := by
  refine ⟨fun pins s σ H Q I q => ?_⟩
  have hn := I.hok.fresh (Nat.le_refl s.heap.objs.size)
  have I1 := I.laid (a := s.heap.objs.size) (o := .dT []) (h' := s.heap.push { cls := .type "dict", data := .dict #[] }) (t' := s.toks) (fun _ _ q => Heap.get?_push_of_some _ q) (Nat.le_refl _) (dt_empty s.heap I.big)
  have pr := pairTrees_length [some k] [v] X.env pos rfl rfl
  rw [arm_eval_Dict, zip_pairTrees [some k] [v] X.env pos rfl rfl, dictDisplay_pairs _ (fun z => by rw [z] at pr; cases pr) (by rw [pr]; exact (by decide : (1 : Nat) < 17))]
  refine wpAny_bind (wpAny_standAt (wpAny_bind (wpAny_subDictH (knd := tupleKind (mixKind X.prog X.w)) (Q := fun d s' => wpAny (model X.prog X.w) X.A (pure (Value.ref d)) (EP X pins σ Q) X.xe s') (show X.A.units < cLine by omega) (by rw [pr]; exact (by decide : (1 : Nat) ≤ 15)) ?_)))
  refine thn ((pps_cons hk hv pps_nil).run pins _ σ _ (fun ps H2 => match ps with | [(x, y)] => H2 s.heap.objs.size = some (.dT []) ∧ ∃ (k : List Key) (b : Addr), x = .ref b ∧ H2 b = some (.tup (k.map kV)) ∧ Q (.ref s.heap.objs.size) (upd H2 s.heap.objs.size (.dT [(k, y)])) | _ => False) I1 (q _ hn)) fun ws s2 ⟨ps, H2, I2, rel, q1⟩ => ?_
  match ps, q1 with
  | [(x, y)], q1 => ?_
  obtain ⟨e, kk, b, ex, eb, q2⟩ := q1
  subst ex
  cases rel with
  | @cons _ bb _ _ h t =>
    obtain ⟨b1, b2⟩ := bb
    cases t
    obtain ⟨r1, r2⟩ := h
    cases (show b1 = Value.ref b from r1)
    obtain ⟨z, hd, xs, rel, dd⟩ := dt_of I2.hok e
    cases rel
    refine ⟨[(kk, b, b2)], ⟨rfl, rfl, key_of I2.hok eb, trivial⟩, dd, fun h' tk' dd' hs => wpAny_pure ⟨.ref s.heap.objs.size, _, ?_, rfl, q2⟩⟩
    obtain ⟨qo, es, ep, hq, h2, h3, h4, _, h5⟩ := dd'
    refine d_write I2 (by rw [e]; exact True.intro) hs ⟨qo, hq⟩ ⟨by show 1 ≤ sizeLine; decide, hd, [(kk, b, b2)], .cons ⟨rfl, ?_, r2⟩ .nil, qo, es, ep, hq, h2, h3, h4, h5⟩
    rw [upd_ne (ne_of eb e (fun z => nomatch z))]
    exact eb
end Ow

/-! walks over a list or a tuple alike; comprehensions that keep some items and turn them -/
namespace Sq
open PySem PySem.Spec PyProof.Rows L2 Hb St
/-- what a program changes in place -/
def Mut (o : HO) : Prop := (∃ ys, o = .lst ys) ∨ ∃ k, o = .dT k
/-- all but the lists and dicts is as it was -/
def Fix (H H' : Hp) : Prop := ∀ b o, H b = some o → ¬ Mut o → H' b = some o
theorem Fix.of {H H' : Hp} (s : Same H H') : Fix H H' := fun b o e _ => s b o e
theorem Fix.refl (H : Hp) : Fix H H := fun _ _ e _ => e
theorem Fix.trans {H H1 H2 : Hp} (a : Fix H H1) (b : Fix H1 H2) : Fix H H2 := fun c o e n => b c o (a c o e n) n
theorem Fix.lst {H : Hp} {p : Addr} {xs : List V} {o : HO} (e : H p = some (.lst xs)) : Fix H (upd H p o) := fun b u eb n => by
  rw [upd_ne fun z => n (.inl ⟨xs, by rw [z, e] at eb; exact (Option.some.inj eb).symm⟩)]; exact eb
theorem Fix.dT {H : Hp} {p : Addr} {k : List (List Key × V)} {o : HO} (e : H p = some (.dT k)) : Fix H (upd H p o) := fun b u eb n => by
  rw [upd_ne fun z => n (.inr ⟨k, by rw [z, e] at eb; exact (Option.some.inj eb).symm⟩)]; exact eb
theorem Fix.new {H : Hp} {p : Addr} {o : HO} (e : H p = none) : Fix H (upd H p o) := Fix.of (same_new e o)
theorem Fix.kept {H H' : Hp} {p : Addr} {xs : List V} (e : H p = some (.lst xs)) (k : Kept p H H') : Fix H H' := fun b o eb n => k b o eb fun z => n (.inl ⟨xs, by rw [z, e] at eb; exact (Option.some.inj eb).symm⟩)
theorem tupFix {K : PySem.W.Frag} {H H' : Hp} {a : Addr} {xs : List V} (f : Fix H H') (h : SqT K H a xs) : SqT K H' a xs := by
  rcases h with (e | ⟨o, e⟩) | r
  · exact .inl (.inl (f _ _ e (by rintro (⟨_, z⟩ | ⟨_, z⟩) <;> cases z)))
  · exact .inl (.inr ⟨o, f _ _ e (by rintro (⟨_, z⟩ | ⟨_, z⟩) <;> cases z)⟩)
  · exact .inr r
theorem lstSame {K : PySem.W.Frag} {H H' : Hp} {a : Addr} {xs : List V} (f : Same H H') (h : SqL K H a xs) : SqL K H' a xs := by
  rcases h with (e | ⟨o, e⟩) | r
  · exact .inl (.inl (f _ _ e))
  · exact .inl (.inr ⟨o, f _ _ e⟩)
  · exact .inr r
theorem sqxSame {K : PySem.W.Frag} {H H' : Hp} {a : Addr} {xs : List V} (s : Same H H') (h : SqX K H a xs) : SqX K H' a xs := h.imp (lstSame s) (tupFix (Fix.of s))
theorem SqX.lst {K : PySem.W.Frag} {H : Hp} {a : Addr} {xs : List V} (e : H a = some (.lst xs)) : SqX K H a xs := .inl (SqL.of e)
theorem SqX.tup {K : PySem.W.Frag} {H : Hp} {a : Addr} {xs : List V} (e : H a = some (.tup xs)) : SqX K H a xs := .inr (SqT.of e)
/-- item by item -/
inductive All2 {α β : Type} (R : α → β → Prop) : List α → List β → Prop where
  | nil : All2 R [] []
  | cons {a b as bs} : R a b → All2 R as bs → All2 R (a :: as) (b :: bs)
namespace All2
variable {α β : Type} {R S : α → β → Prop}
theorem len : ∀ {as : List α} {bs : List β}, All2 R as bs → as.length = bs.length
  | _, _, .nil => rfl
  | _, _, .cons _ t => congrArg (· + 1) t.len
theorem imp (f : ∀ a b, R a b → S a b) : ∀ {as : List α} {bs : List β}, All2 R as bs → All2 S as bs
  | _, _, .nil => .nil
  | _, _, .cons h t => .cons (f _ _ h) (imp f t)
theorem app : ∀ {as as' : List α} {bs bs' : List β}, All2 R as bs → All2 R as' bs' → All2 R (as ++ as') (bs ++ bs')
  | _, _, _, _, .nil, h => h
  | _, _, _, _, .cons h t, k => .cons h (app t k)
theorem get : ∀ {as : List α} {bs : List β}, All2 R as bs → ∀ {i : Nat} {a : α}, as[i]? = some a → ∃ b, bs[i]? = some b ∧ R a b
  | _, _, .cons h t, 0, a, e => ⟨_, rfl, by cases e; exact h⟩
  | _, _, .cons h t, i + 1, a, e => t.get (i := i) e
theorem getR : ∀ {as : List α} {bs : List β}, All2 R as bs → ∀ {i : Nat} {b : β}, bs[i]? = some b → ∃ a, as[i]? = some a ∧ R a b
  | _, _, .cons h t, 0, a, e => ⟨_, rfl, by cases e; exact h⟩
  | _, _, .cons h t, i + 1, a, e => t.getR (i := i) e
theorem map_eq {f : β → α} (h : ∀ a b, R a b → a = f b) : ∀ {as : List α} {bs : List β}, All2 R as bs → as = bs.map f
  | _, _, .nil => rfl
  | _, _, .cons r t => by rw [List.map_cons, h _ _ r, map_eq h t]
theorem of_map {f : β → α} (h : ∀ b, R (f b) b) : ∀ bs : List β, All2 R (bs.map f) bs
  | [] => .nil
  | b :: bs => .cons (h b) (of_map h bs)
theorem drop : ∀ {as : List α} {bs : List β} (n : Nat), All2 R as bs → All2 R (as.drop n) (bs.drop n)
  | _, _, 0, h => h
  | _, _, n + 1, .nil => .nil
  | _, _, n + 1, .cons _ t => drop n t
theorem take : ∀ {as : List α} {bs : List β} (n : Nat), All2 R as bs → All2 R (as.take n) (bs.take n)
  | _, _, 0, h => .nil
  | _, _, n + 1, .nil => .nil
  | _, _, n + 1, .cons h t => .cons h (take n t)
end All2
/-- a walk J over the items xs of the object at a; S: it stands -/
structure Wk (J : It) (a : Addr) (S : Hp → Prop) (xs : List V) : Prop where
  go : ∀ i H, i < xs.length → S H → J.go i H
  stop : ∀ H, S H → J.stop xs.length H
  yld : ∀ i H v H', i < xs.length → S H → J.yld i H v H' → H' = H ∧ xs[i]? = some v
  keep : ∀ {H H' : Hp}, (∀ o, H a = some o → H' a = some o) → S H → S H'
theorem wk_list {K : PySem.W.Frag} {a : Addr} {xs : List V} : Wk (Itl K a) a (fun H => SqL K H a xs) xs where
  go := fun i H hi s => ⟨xs, xs[i], s, List.getElem?_eq_getElem hi⟩
  stop := fun H s => ⟨xs, s, Nat.le_refl _⟩
  yld := fun i H v H' _ s y => ⟨y.1, y.2 xs s⟩
  keep := fun k s => by
    rcases s with (e | ⟨o, e⟩) | r
    · exact .inl (.inl (k _ e))
    · exact .inl (.inr ⟨o, k _ e⟩)
    · exact .inr r
theorem wk_tup {K : PySem.W.Frag} {a : Addr} {xs : List V} : Wk (Itt K a) a (fun H => SqT K H a xs) xs where
  go := fun i H hi s => ⟨xs, xs[i], s, List.getElem?_eq_getElem hi⟩
  stop := fun H s => ⟨xs, s, Nat.le_refl _⟩
  yld := fun i H v H' _ s y => ⟨y.1, y.2 xs s⟩
  keep := fun k s => by
    rcases s with (e | ⟨o, e⟩) | r
    · exact .inl (.inl (k _ e))
    · exact .inl (.inr ⟨o, k _ e⟩)
    · exact .inr r
def iSeq (K : PySem.W.Frag) (tl : TE) : TI := fun σ H R => tl σ H fun x H1 => ∃ a xs, x = .ref a ∧ SqX K H1 a xs ∧ ∀ (J : It) (S : Hp → Prop), Wk J a S xs → S H1 → R J H1
theorem pi_seq {X : Cx} {tg l : Expr} {tl : TE} (hl : PE X l tl) : PI X tg l (iSeq X.K tl) := by
  refine ⟨fun pins s σ H R I h => ?_⟩
  have both : PI X tg l (fun σ H R => iList X.K tl σ H R ∨ iTup X.K tl σ H R) := ⟨fun pins s σ H R I h => h.elim ((pi_list hl).run pins s σ H R I) ((pi_tup hl).run pins s σ H R I)⟩
  refine thn (hl.run pins s σ H _ I h) fun v s1 ⟨x, H1, I1, r1, a, xs, ex, hx, q⟩ => ?_
  subst ex; cases r1
  rcases hx with hx | hx
  · obtain ⟨its, rv, p, hz⟩ := I1.list hx
    refine wpAny_pyIter_list p.isList ⟨s1.heap.objs.size, [s1.heap.objs.size], _, _, H1, rfl, I1.kept (t' := s1.toks) fun b o e => Heap.get?_push_of_some _ e, turn_list a _, ⟨_, Heap.get?_push_size _ rfl, rfl, rfl⟩, fun b hb => ?_, q _ _ wk_list hx⟩
    obtain rfl : b = s1.heap.objs.size := by simpa using hb
    exact I1.fpOk (Nat.le_refl _) (I1.hok.fresh (Nat.le_refl _))
  · obtain ⟨its, rv, p, hz⟩ := I1.tuple hx
    refine wpAny_pyIter_tuple (show s1.heap.IsTuple a its.toArray from p) ⟨s1.heap.objs.size, [s1.heap.objs.size], _, _, H1, rfl, I1.kept (t' := s1.toks) fun b o e => Heap.get?_push_of_some _ e, turn_tuple a _, ⟨_, Heap.get?_push_size _ rfl, rfl, rfl⟩, fun b hb => ?_, q _ _ wk_tup hx⟩
    obtain rfl : b = s1.heap.objs.size := by simpa using hb
    exact I1.fpOk (Nat.le_refl _) (I1.hok.fresh (Nat.le_refl _))
/-! ### comprehensions -/
section
variable {α : Type}
/-- where a comprehension stands: H1 as it began, D its list, ds its items' data -/
structure MF (H1 : Hp) (D : Addr) (ds : List α) (keep : α → Bool) (Rel : Hp → V → α → Prop) (i : Nat) (H : Hp) : Prop where
  same : Same H1 H
  acc : ∃ ys, H D = some (.lst ys) ∧ All2 (Rel H) ys ((ds.take i).filter keep)
variable {H1 : Hp} {D : Addr} {ds : List α} {keep : α → Bool} {Rel : Hp → V → α → Prop} {i : Nat} {H : Hp}
theorem mf_yes (m : MF H1 D ds keep Rel i H) {H' : Hp} {d : α} {y : V} (hd : H1 D = none) (mono : ∀ H H' y d, Fix H H' → Rel H y d → Rel H' y d) (hi : ds[i]? = some d) (hl : ds.length ≤ 100000) (s : Same H H') (k : keep d = true) (r : Rel H' y d) :
    ∃ acc, H' D = some (.lst acc) ∧ acc.length < sizeLine ∧ MF H1 D ds keep Rel (i + 1) (upd H' D (.lst (acc ++ [y]))) := by
  obtain ⟨s1, ys, e, a⟩ := m
  have e' := s _ _ e
  have fx : Fix H' (upd H' D (.lst (ys ++ [y]))) := Fix.lst e'
  refine ⟨ys, e', ?_, fun b o eb => ?_, ys ++ [y], upd_same, ?_⟩
  · have := a.len
    have h2 := List.length_filter_le keep (ds.take i)
    have h3 : (ds.take i).length ≤ ds.length := by rw [List.length_take]; exact Nat.min_le_right _ _
    rw [sizeLine_eq]; omega
  · rw [upd_ne (ne_of_none eb hd)]; exact s b o (s1 b o eb)
  · rw [List.take_add_one, hi, List.filter_append]
    show All2 _ _ (_ ++ [d].filter keep)
    rw [List.filter_cons_of_pos k]
    exact (a.imp fun _ _ q => mono _ _ _ _ ((Fix.of s).trans fx) q).app (.cons (mono _ _ _ _ fx r) .nil)
theorem mf_no (m : MF H1 D ds keep Rel i H) {H' : Hp} {d : α} (mono : ∀ H H' y d, Fix H H' → Rel H y d → Rel H' y d) (hi : ds[i]? = some d) (s : Same H H') (k : keep d = false) : MF H1 D ds keep Rel (i + 1) H' := by
  obtain ⟨s1, ys, e, a⟩ := m
  refine ⟨s1.trans s, ys, s _ _ e, ?_⟩
  rw [List.take_add_one, hi, List.filter_append]
  show All2 _ _ (_ ++ [d].filter keep)
  rw [List.filter_cons_of_neg (by rw [k]; exact Bool.false_ne_true), List.filter_nil, List.append_nil]
  exact a.imp fun _ _ q => mono _ _ _ _ (Fix.of s) q
/-- a comprehension over the walk J -/
theorem lc_mf {J : It} {a : Addr} {S : Hp → Prop} {xs : List V} {ds : List α} (W : Wk J a S xs) (keep : α → Bool) (Rel : Hp → V → α → Prop) {g : TG} {tt : TT} {te : TE} {vs : List Nat} {σ : L2.St} {H1 : Hp} {D : Addr} {Qd : Hp → Prop} (hS : S H1) (hD : H1 D = none)
    (hlen : xs.length = ds.length)
    (hs : ∀ i x d H, xs[i]? = some x → ds[i]? = some d → Same H1 H → MF H1 D ds keep Rel i H → g x (wipe σ vs) H fun σ2 H2 => wipe σ2 vs = wipe σ vs ∧ tt σ2 H2 fun b H3 =>
      if b = true then te σ2 H3 fun y H4 => ∃ acc, H4 D = some (.lst acc) ∧ acc.length < sizeLine ∧ MF H1 D ds keep Rel (i + 1) (upd H4 D (.lst (acc ++ [y]))) else MF H1 D ds keep Rel (i + 1) H3)
    (hd : ∀ H ys, Same H1 H → H D = some (.lst ys) → All2 (Rel H) ys (ds.filter keep) → Qd H) :
    ∃ W : Nat → Nat → Hp → Prop, (∃ m, W 0 m (upd H1 D (.lst []))) ∧ ∀ i m H, W i m H →
      (J.stop i H ∧ Qd H) ∨ (J.go i H ∧ ∃ Nx : Hp → Prop, (∀ H', Nx H' → ∃ m', m' < m ∧ W (i + 1) m' H') ∧ ∀ v H', J.yld i H v H' → g v (wipe σ vs) H' fun σ2 H2 => wipe σ2 vs = wipe σ vs ∧ tt σ2 H2 fun b H3 =>
        if b = true then te σ2 H3 fun y H4 => ∃ acc, H4 D = some (.lst acc) ∧ acc.length < sizeLine ∧ Nx (upd H4 D (.lst (acc ++ [y]))) else Nx H3) := by
  have stand : ∀ {H}, Same H1 H → S H := fun {H} s => W.keep (fun o e => s _ _ e) hS
  refine ⟨fun i m H => m + i = xs.length ∧ MF H1 D ds keep Rel i H, ⟨xs.length, rfl, fun b o e => by rw [upd_ne (ne_of_none e hD)]; exact e, [], upd_same, .nil⟩, fun i m H ⟨e, p⟩ => ?_⟩
  cases m with
  | zero =>
    obtain rfl : i = xs.length := by omega
    obtain ⟨ys, ey, al⟩ := p.acc
    refine .inl ⟨W.stop H (stand p.same), hd H ys p.same ey ?_⟩
    rw [List.take_of_length_le (by omega)] at al
    exact al
  | succ m =>
    have hi : i < xs.length := by omega
    refine .inr ⟨W.go i H hi (stand p.same), MF H1 D ds keep Rel (i + 1), fun H' p' => ⟨m, Nat.lt_succ_self m, by omega, p'⟩, fun v H' y => ?_⟩
    obtain ⟨rfl, ev⟩ := W.yld i H v H' hi (stand p.same) y
    exact hs i v ds[i] H' ev (List.getElem?_eq_getElem (by omega)) p.same p
end
end Sq
namespace Sq
open PySem PySem.Spec PyProof.Rows L2 Hb St
theorem wk_range {lo : Int} {n : Nat} {a : Addr} : Wk (Itr lo n) a (fun _ => True) ((List.range n).map fun k => V.int (lo + (k : Nat))) where
  go := fun i H hi _ => by
    show i < n
    simpa using hi
  stop := fun H _ => by show n ≤ _; simp
  yld := fun i H v H' hi _ y => by
    obtain ⟨e, ev⟩ := (show H' = H ∧ v = .int (lo + (i : Nat)) from y)
    have hn : i < n := by simpa using hi
    exact ⟨e, by rw [ev, List.getElem?_map, List.getElem?_range hn] <;> rfl⟩
  keep := fun _ _ => trivial
/-- a for over the walk J -/
theorem for_sq {J : It} {a : Addr} {S : Hp → Prop} {xs : List V} (W : Wk J a S xs) {g : TG} {tb : TS} {D : Ends} {σ : L2.St} {H : Hp} (Pv : Nat → L2.St → Hp → Prop) (h0 : Pv 0 σ H) (hk : ∀ i σ H, Pv i σ H → S H)
    (hs : ∀ i σ H x, xs[i]? = some x → Pv i σ H → g x σ H fun σ2 H2 => tb { D with nx := Pv (i + 1), ct := Pv (i + 1), bk := D.nx } σ2 H2) (hd : ∀ σ H, Pv xs.length σ H → D.nx σ H) :
    ∃ W : Nat → Nat → L2.St → Hp → Prop, (∃ m, W 0 m σ H) ∧ ∀ i m σ H, W i m σ H →
      (J.stop i H ∧ D.nx σ H) ∨ (J.go i H ∧ ∃ N : L2.St → Hp → Prop, (∀ σ' H', N σ' H' → ∃ m', m' < m ∧ W (i + 1) m' σ' H') ∧ ∀ v H', J.yld i H v H' → g v σ H' fun σ2 H2 => tb { D with nx := N, ct := N, bk := D.nx } σ2 H2) := by
  refine ⟨fun i m σ H => m + i = xs.length ∧ Pv i σ H, ⟨xs.length, rfl, h0⟩, fun i m σ H ⟨e, p⟩ => ?_⟩
  cases m with
  | zero =>
    obtain rfl : i = xs.length := by omega
    exact .inl ⟨W.stop H (hk _ _ _ p), hd σ H p⟩
  | succ m =>
    refine .inr ⟨W.go i H (by omega) (hk _ _ _ p), Pv (i + 1), fun σ' H' p' => ⟨m, Nat.lt_succ_self m, by omega, p'⟩, fun v H' y => ?_⟩
    obtain ⟨rfl, ev⟩ := W.yld i H v H' (by omega) (hk _ _ _ p) y
    exact hs i σ H' v ev p
/-- a walk of enumerate -/
structure En (J : It) (a : Addr) (S : Hp → Prop) (xs : List V) : Prop where
  go : ∀ i H, i < xs.length → S H → J.go i H
  stop : ∀ H, S H → J.stop xs.length H
  yld : ∀ i H v H', S H → J.yld i H v H' → ∃ T x, v = .ref T ∧ H T = none ∧ H' = upd H T (.tup [.int (i : Nat), x]) ∧ xs[i]? = some x
theorem en_list {K : PySem.W.Frag} {a : Addr} {xs : List V} : En (Ite K a) a (fun H => SqL K H a xs) xs where
  go := fun i H hi s => ⟨xs, xs[i], s, List.getElem?_eq_getElem hi⟩
  stop := fun H s => ⟨xs, s, Nat.le_refl _⟩
  yld := fun i H v H' s ⟨T, x, e1, e2, e3, f⟩ => ⟨T, x, e1, e2, e3, f xs s⟩
theorem en_tup {K : PySem.W.Frag} {a : Addr} {xs : List V} : En (En.IteT K a) a (fun H => SqT K H a xs) xs where
  go := fun i H hi s => ⟨xs, xs[i], s, List.getElem?_eq_getElem hi⟩
  stop := fun H s => ⟨xs, s, Nat.le_refl _⟩
  yld := fun i H v H' s ⟨T, x, e1, e2, e3, f⟩ => ⟨T, x, e1, e2, e3, f xs s⟩
theorem for_en {J : It} {a : Addr} {S : Hp → Prop} {xs : List V} (W : En J a S xs) {g : TG} {tb : TS} {D : Ends} {σ : L2.St} {H : Hp} (Pv : Nat → L2.St → Hp → Prop) (h0 : Pv 0 σ H) (hk : ∀ i σ H, Pv i σ H → S H)
    (hs : ∀ i σ H x T, xs[i]? = some x → Pv i σ H → H T = none → g (.ref T) σ (upd H T (.tup [.int (i : Nat), x])) fun σ2 H2 => tb { D with nx := Pv (i + 1), ct := Pv (i + 1), bk := D.nx } σ2 H2) (hd : ∀ σ H, Pv xs.length σ H → D.nx σ H) :
    ∃ W : Nat → Nat → L2.St → Hp → Prop, (∃ m, W 0 m σ H) ∧ ∀ i m σ H, W i m σ H →
      (J.stop i H ∧ D.nx σ H) ∨ (J.go i H ∧ ∃ N : L2.St → Hp → Prop, (∀ σ' H', N σ' H' → ∃ m', m' < m ∧ W (i + 1) m' σ' H') ∧ ∀ v H', J.yld i H v H' → g v σ H' fun σ2 H2 => tb { D with nx := N, ct := N, bk := D.nx } σ2 H2) := by
  refine ⟨fun i m σ H => m + i = xs.length ∧ Pv i σ H, ⟨xs.length, rfl, h0⟩, fun i m σ H ⟨e, p⟩ => ?_⟩
  cases m with
  | zero =>
    obtain rfl : i = xs.length := by omega
    exact .inl ⟨W.stop H (hk _ _ _ p), hd σ H p⟩
  | succ m =>
    refine .inr ⟨W.go i H (by omega) (hk _ _ _ p), Pv (i + 1), fun σ' H' p' => ⟨m, Nat.lt_succ_self m, by omega, p'⟩, fun v H' y => ?_⟩
    obtain ⟨T, x, rfl, hT, rfl, ex⟩ := W.yld i H v H' (hk _ _ _ p) y
    exact hs i σ H x T ex p hT
theorem pi_or {X : Cx} {tg it : Expr} {w1 w2 : TI} (h1 : PI X tg it w1) (h2 : PI X tg it w2) : PI X tg it (fun σ H R => w1 σ H R ∨ w2 σ H R) := ⟨fun pins s σ H R I h => h.elim (h1.run pins s σ H R I) (h2.run pins s σ H R I)⟩
def rTupE (K : PySem.W.Frag) : List V → Hp → VK → Prop := fun xs H Q => ∃ p ys, xs = [V.ref p] ∧ ((SqL K H p ys ∧ ∀ l, H l = none → Q (.ref l) (upd H l (.tup ys))) ∨ (SqT K H p ys ∧ Q (.ref p) H))
theorem call_tupE {X : Cx} : CallR X (.type "tuple") (rTupE X.K) := call_tuple_of
end Sq

namespace Kd
open PySem PySem.Spec PyProof.Rows L2 Hb St Sq Ow En
def top (i : Nat) : Stmt := PySem.Challenge.pw_curvebells_k50_wishes_that_read_tales.main.body.getD i (.Pass ⟨0, 0, 0, 0⟩)
/-! ### data -/
def IsNm (x : Str) : Prop := 0 < x.length ∧ x.length ≤ 8 ∧ ∀ c ∈ x.cps.toList, 97 ≤ c ∧ c < 123
structure Stp where
  b : Int
  need : List Str
  bar : List Str
  e : Int
deriving DecidableEq
structure Wd where
  n : Int
  good : List Int
  steps : List Stp
deriving DecidableEq
section
variable (K : PySem.W.Frag)
/-- a tuple of texts; a list or a tuple of them -/
def TS_ (H : Hp) (v : V) (xs : List Str) : Prop := ∃ a, v = .ref a ∧ SqT K H a (xs.map V.str) ∧ xs.length ≤ 1000 ∧ ∀ x ∈ xs, IsNm x
def TX (H : Hp) (v : V) (xs : List Str) : Prop := ∃ a, v = .ref a ∧ SqX K H a (xs.map V.str)
/-- a step as the wish keeps it, as it is handed in -/
def SP (H : Hp) (v : V) (s : Stp) : Prop := ∃ a n r, v = .ref a ∧ SqT K H a [.int s.b, n, r, .int s.e] ∧ TS_ K H n s.need ∧ TS_ K H r s.bar
def SI (H : Hp) (v : V) (s : Stp) : Prop := ∃ a n r, v = .ref a ∧ SqT K H a [.int s.b, n, r, .int s.e] ∧ TX K H n s.need ∧ TX K H r s.bar
def flds (n : Int) (g st : V) : List (Str × V) := putF "steps" st (putF "good" g (putF "states" (.int n) []))
/-- a wish -/
def WA (C : Addr) (H : Hp) (v : V) (W : Wd) : Prop := ∃ a dx ga sa its, v = .ref a ∧ H a = some (.ins C dx (flds W.n (.ref ga) (.ref sa))) ∧ SqT K H ga (W.good.map V.int) ∧ SqT K H sa its ∧ All2 (SP K H) its W.steps
end
section
variable {K : PySem.W.Frag} {H H' : Hp} {v : V}
theorem TS_.fix {xs : List Str} (f : Fix H H') (h : TS_ K H v xs) : TS_ K H' v xs := let ⟨a, e, q, l⟩ := h; ⟨a, e, tupFix f q, l⟩
theorem TX.same {xs : List Str} (f : Same H H') (h : TX K H v xs) : TX K H' v xs := let ⟨a, e, q⟩ := h; ⟨a, e, sqxSame f q⟩
theorem TS_.tx {xs : List Str} (h : TS_ K H v xs) : TX K H v xs := let ⟨a, e, q, _⟩ := h; ⟨a, e, .inr q⟩
theorem SP.fix {s : Stp} (f : Fix H H') (h : SP K H v s) : SP K H' v s := let ⟨a, n, r, e, q, q1, q2⟩ := h; ⟨a, n, r, e, tupFix f q, q1.fix f, q2.fix f⟩
theorem SI.same {s : Stp} (f : Same H H') (h : SI K H v s) : SI K H' v s := let ⟨a, n, r, e, q, q1, q2⟩ := h; ⟨a, n, r, e, tupFix (Fix.of f) q, q1.same f, q2.same f⟩
theorem SP.si {s : Stp} (h : SP K H v s) : SI K H v s := let ⟨a, n, r, e, q, q1, q2⟩ := h; ⟨a, n, r, e, q, q1.tx, q2.tx⟩
theorem WA.fix {C : Addr} {W : Wd} (f : Fix H H') (h : WA K C H v W) : WA K C H' v W := by
  obtain ⟨a, dx, ga, sa, its, e, q, q1, q2, q3⟩ := h
  exact ⟨a, dx, ga, sa, its, e, f _ _ q (by rintro (⟨_, z⟩ | ⟨_, z⟩) <;> cases z), tupFix f q1, tupFix f q2, q3.imp fun _ _ => SP.fix f⟩
theorem WA.same {C : Addr} {W : Wd} (f : Same H H') (h : WA K C H v W) : WA K C H' v W := h.fix (Fix.of f)
end
theorem n_sg : ¬ (("states" : Str) = "good") := by decide +kernel
theorem n_ss : ¬ (("states" : Str) = "steps") := by decide +kernel
theorem n_gs : ¬ (("good" : Str) = "steps") := by decide +kernel
theorem fl_states (n : Int) (g st : V) : (flds n g st).lookup ("states" : Str) = some (.int n) := by
  unfold flds
  rw [lookup_putF, if_neg n_ss, lookup_putF, if_neg n_sg, lookup_putF, if_pos rfl]
theorem fl_good (n : Int) (g st : V) : (flds n g st).lookup ("good" : Str) = some g := by
  unfold flds
  rw [lookup_putF, if_neg n_gs, lookup_putF, if_pos rfl]
theorem fl_steps (n : Int) (g st : V) : (flds n g st).lookup ("steps" : Str) = some st := by
  unfold flds
  rw [lookup_putF, if_pos rfl]
theorem fl_no (n : Int) (g st : V) {m : Str} (h1 : ¬ m = "states") (h2 : ¬ m = "good") (h3 : ¬ m = "steps") : (flds n g st).lookup m = none := by
  unfold flds
  rw [lookup_putF, if_neg h3, lookup_putF, if_neg h2, lookup_putF, if_neg h1]
  all_goals rfl
/-- what is asked of the class -/
structure Txt (K : PySem.W.Frag) (mg : Str → Option Value) (C : Addr) : Prop where
  cl : Cls K C
  nS : NoAttr K C "states"
  nG : NoAttr K C "good"
  nT : NoAttr K C "steps"
  mgC : mg "Wish" = some (.ref C)
  x1 : PySem.W.findIn K (.ref C) "__class__" = some (some (.builtin "object.__class__"))
  x2 : PySem.W.specialIn K (.builtin "object.__class__") "__get__" = some (some (.builtin "getset_descriptor.__get__"))
  x3 : PySem.W.takesIn K (.builtin "object.__class__") = some true
  x4 : PySem.W.mroIn K C (.type "object") = some true
  kC : PySem.W.kitOne K (.ref C) (.ref C) = some true
  kL : PySem.W.kitOne K (.type "list") (.ref C) = some false
  sL : PySem.W.subIn K (.type "list") (.ref C) = some false
/-! ### names -/
theorem az_all : ((List.range 26).all fun k => Unicode.isAlpha (97 + k) && Unicode.isLower (97 + k) && !Unicode.isUpper (97 + k) && !Unicode.isTitle (97 + k)) = true := by decide +kernel
theorem az {c : Nat} (h : 97 ≤ c ∧ c < 123) : Unicode.isAlpha c = true ∧ Unicode.isLower c = true ∧ Unicode.isUpper c = false ∧ Unicode.isTitle c = false := by
  have q := List.all_eq_true.mp az_all (c - 97) (List.mem_range.mpr (by omega))
  rw [show 97 + (c - 97) = c by omega] at q
  simp only [Bool.and_eq_true, Bool.not_eq_true'] at q
  exact ⟨q.1.1.1, q.1.1.2, q.1.2, q.2⟩
theorem nm_all {x : Str} (h : IsNm x) {p : Nat → Bool} (k : ∀ c, 97 ≤ c ∧ c < 123 → p c = true) : x.cps.all p = true := by
  rw [Array.all_eq_true_iff_forall_mem]
  exact fun c hc => k c (h.2.2 c (Array.mem_toList_iff.mpr hc))
theorem nm_ascii {x : Str} (h : IsNm x) : Txt.isascii x = true := nm_all h fun c hc => by simp; omega
theorem nm_alpha {x : Str} (h : IsNm x) : Txt.isalpha x = true := by
  unfold Txt.isalpha
  rw [nm_all h fun c hc => (az hc).1, decide_eq_true h.1]; rfl
theorem nm_lower {x : Str} (h : IsNm x) : Txt.islower x = true := by
  unfold Txt.islower
  have h1 : x.cps.any Unicode.isLower = true := by
    rw [Array.any_eq_true]
    have hp : 0 < x.cps.size := h.1
    exact ⟨0, hp, (az (h.2.2 _ (by simp))).2.1⟩
  have h2 : (x.cps.any fun c => Unicode.isUpper c || Unicode.isTitle c) = false := by
    rw [Array.any_eq_false]
    intro i hi
    have := az (h.2.2 x.cps[i] (by simp))
    rw [this.2.2.1, this.2.2.2]; decide
  rw [h1, h2]; rfl
section
variable {P : Program} {w : World} {K : PySem.W.Frag} {mg : Str → Option Value} {base : Heap}
/-! ### is_integer -/
abbrev s_is_integer : Stmt := top 6
theorem sc_is_integer : FnScope ["value"] ["value"] (defScope s_is_integer) := ⟨rfl, rfl, rfl, by decide +kernel, rfl, by decide +kernel, by decide +kernel⟩
def spIsInt : Sp := fun vs H Q _ => ∃ i : Int, vs = [.int i] ∧ Q (.bl true) H
theorem ok_isInt {f : Addr} {fd : FuncData} (F : Fun K "is_integer" "is_integer" s_is_integer f fd) (n_bool : mg "bool" = none) (n_int : mg "int" = none) (n_isinstance : mg "isinstance" = none) : FnOk P w K mg base CX0 1 f fd ["value"] spIsInt := by
  refine F.ok sc_is_integer (fun vs H Q E h => ?_) (fun cdv A outer s H vs Q E hr h => ?_)
  · obtain ⟨_, rfl, _⟩ := h
    rfl
  · obtain ⟨i, rfl, q⟩ := h
    refine ⟨_, (pss_one (ps_ret (pe_and (pe_callB call_isi (by rfl) n_isinstance (by decide +kernel) (pa_cons (pv 0) (pa_cons (pe_bltn (v := .ty "int") (by rfl) n_int (by decide +kernel) rfl) pa_nil))) (pe_one (pe_not (pe_callB call_isi (by rfl) n_isinstance (by decide +kernel) (pa_cons (pv 0) (pa_cons (pe_bltn (v := .ty "bool") (by rfl) n_bool (by decide +kernel) rfl) pa_nil)))))))), ?_⟩
    refine ⟨_, rfl, .int i, .ty "int", _, _, _, rfl, .ty "int", .base (.int i), kit_ty (r := true) (by decide +kernel), true, rfl, iteT ?_⟩
    exact ⟨_, rfl, .int i, .ty "bool", _, _, _, rfl, .ty "bool", .base (.int i), kit_ty (r := false) (by decide +kernel), false, rfl, q⟩
/-! ### is_number -/
abbrev s_is_number : Stmt := top 7
theorem sc_is_number : FnScope ["value"] ["value"] (defScope s_is_number) := ⟨rfl, rfl, rfl, by decide +kernel, rfl, by decide +kernel, by decide +kernel⟩
def spIsNum : Sp := fun vs H Q _ => ∃ i : Int, vs = [.int i] ∧ Q (.bl (decide (0 ≤ i))) H
theorem ok_isNum {f : Addr} {fd : FuncData} (F : Fun K "is_number" "is_number" s_is_number f fd) (C_is_integer : Cl P w K mg base "is_integer" ["value"] [] 1 spIsInt) : FnOk P w K mg base CX0 2 f fd ["value"] spIsNum := by
  refine F.ok sc_is_number (fun vs H Q E h => ?_) (fun cdv A outer s H vs Q E hr h => ?_)
  · obtain ⟨_, rfl, _⟩ := h
    rfl
  · obtain ⟨i, rfl, q⟩ := h
    refine ⟨_, (pss_one (ps_ret (pe_and (pe_use C_is_integer (hr.mono (by decide)) rfl (pa_cons (pv 0) pa_nil)) (pe_one (pe_cmpR op_ge (pv 0) pe_int (nomark _)))))), ?_⟩
    exact ⟨_, rfl, i, rfl, true, rfl, iteT ⟨_, rfl, _, _, rfl, rfl, q⟩⟩
/-! ### is_count -/
abbrev s_is_count : Stmt := top 8
theorem sc_is_count : FnScope ["value"] ["value"] (defScope s_is_count) := ⟨rfl, rfl, rfl, by decide +kernel, rfl, by decide +kernel, by decide +kernel⟩
def spIsCnt : Sp := fun vs H Q _ => ∃ i : Int, vs = [.int i] ∧ Q (.bl (decide (1 ≤ i))) H
theorem ok_isCnt {f : Addr} {fd : FuncData} (F : Fun K "is_count" "is_count" s_is_count f fd) (C_is_integer : Cl P w K mg base "is_integer" ["value"] [] 1 spIsInt) : FnOk P w K mg base CX0 2 f fd ["value"] spIsCnt := by
  refine F.ok sc_is_count (fun vs H Q E h => ?_) (fun cdv A outer s H vs Q E hr h => ?_)
  · obtain ⟨_, rfl, _⟩ := h
    rfl
  · obtain ⟨i, rfl, q⟩ := h
    refine ⟨_, (pss_one (ps_ret (pe_and (pe_use C_is_integer (hr.mono (by decide)) rfl (pa_cons (pv 0) pa_nil)) (pe_one (pe_cmpR op_ge (pv 0) pe_int (nomark _)))))), ?_⟩
    exact ⟨_, rfl, i, rfl, true, rfl, iteT ⟨_, rfl, _, _, rfl, rfl, q⟩⟩
/-! ### is_sequence -/
abbrev s_is_sequence : Stmt := top 9
theorem sc_is_sequence : FnScope ["value"] ["value"] (defScope s_is_sequence) := ⟨rfl, rfl, rfl, by decide +kernel, rfl, by decide +kernel, by decide +kernel⟩
def spIsSeq (K : PySem.W.Frag) : Sp := fun vs H Q _ => ∃ (a : Addr) (xs : List V), vs = [.ref a] ∧ SqX K H a xs ∧ ∀ H', Same H H' → Q (.bl true) H'
theorem ty_seq {H : Hp} {a : Addr} {xs : List V} (h : SqX K H a xs) : TyX K H (.ref a) (.type "list") ∨ TyX K H (.ref a) (.type "tuple") := by
  rcases h with ((e | ⟨o, e⟩) | ⟨o, its, n, e, c, _⟩) | ((e | ⟨o, e⟩) | ⟨o, its, n, e, c, _⟩)
  · exact .inl (.base (.lst e))
  · exact .inl (.base (.frz e))
  · exact .inl (.kList e c)
  · exact .inr (.base (.tup e))
  · exact .inr (.fTuple e)
  · exact .inr (.kTuple e c)
theorem ok_isSeq {f : Addr} {fd : FuncData} (F : Fun K "is_sequence" "is_sequence" s_is_sequence f fd) (n_isinstance : mg "isinstance" = none) (n_list : mg "list" = none) (n_tuple : mg "tuple" = none) : FnOk P w K mg base CX0 1 f fd ["value"] (spIsSeq K) := by
  refine F.ok sc_is_sequence (fun vs H Q E h => ?_) (fun cdv A outer s H vs Q E hr h => ?_)
  · obtain ⟨_, _, rfl, _⟩ := h
    rfl
  · obtain ⟨a, xs, rfl, hx, q⟩ := h
    refine ⟨_, (pss_one (ps_ret (pe_callB call_isiT (by rfl) n_isinstance (by decide +kernel) (pa_cons (pv 0) (pa_cons (pe_tup (pa_cons (pe_bltn (v := .ty "list") (by rfl) n_list (by decide +kernel) rfl) (pa_cons (pe_bltn (v := .ty "tuple") (by rfl) n_tuple (by decide +kernel) rfl) pa_nil))) pa_nil))))), ?_⟩
    refine ⟨_, rfl, by show 2 ≤ sizeLine; decide, fun t ht => ?_⟩
    have s1 := same_new ht (.tup [.ty "list", .ty "tuple"])
    rcases ty_seq (sqxSame s1 hx) with ty | ty
    · exact ⟨_, t, [.ty "list", .ty "tuple"], _, [.type "list", .type "tuple"], true, rfl, upd_same, .cons (.ty _) (.cons (.ty _) .nil), ty, by unfold PySem.W.kitAny; rw [kit_ty (a := "list") (b := "list") (r := true) (by decide +kernel)], q _ s1⟩
    · exact ⟨_, t, [.ty "list", .ty "tuple"], _, [.type "list", .type "tuple"], true, rfl, upd_same, .cons (.ty _) (.cons (.ty _) .nil), ty, by unfold PySem.W.kitAny PySem.W.kitAny; rw [kit_ty (a := "tuple") (b := "list") (r := false) (by decide +kernel), kit_ty (a := "tuple") (b := "tuple") (r := true) (by decide +kernel)], q _ s1⟩
/-! ### is_name -/
abbrev s_is_name : Stmt := top 10
theorem sc_is_name : FnScope ["value"] ["value"] (defScope s_is_name) := ⟨rfl, rfl, rfl, by decide +kernel, rfl, by decide +kernel, by decide +kernel⟩
def spIsName : Sp := fun vs H Q _ => ∃ x : Str, vs = [.str x] ∧ IsNm x ∧ Q (.bl true) H
theorem ok_isName {f : Addr} {fd : FuncData} (F : Fun K "is_name" "is_name" s_is_name f fd) {tk : Tok} (g_LETTERS : mg "LETTERS" = some (.int 8 tk)) (n_isinstance : mg "isinstance" = none) (n_len : mg "len" = none) (n_str : mg "str" = none) : FnOk P w K mg base CX0 1 f fd ["value"] spIsName := by
  refine F.ok sc_is_name (fun vs H Q E h => ?_) (fun cdv A outer s H vs Q E hr h => ?_)
  · obtain ⟨_, rfl, _⟩ := h
    rfl
  · obtain ⟨x, rfl, hx, q⟩ := h
    refine ⟨_, (Evl.pss_cut (ps_if (PW.pt (pw_or (pt_not (pt_val (pe_callB call_isi (by rfl) n_isinstance (by decide +kernel) (pa_cons (pv 0) (pa_cons (pe_bltn (v := .ty "str") (by rfl) n_str (by decide +kernel) rfl) pa_nil))))) (pw_or1 (pt_cmpR op_gt (pe_callB call_len_str (by rfl) n_len PySem.boot_len (pa_cons (pv 0) pa_nil)) (pe_glob (v := .int 8) rfl g_LETTERS ⟨_, rfl⟩) (nomark _))))) (pss_one (ps_ret pe_bl)) pss_nil)
    (pss_one (ps_ret (pe_and (pe_bm0 PySem.F.plainAttrs_str PySem.F.slot_str_isascii PySem.F.type_str_isascii mt_isascii (pv 0)) (pe_and (pe_bm0 PySem.F.plainAttrs_str PySem.F.slot_str_isalpha PySem.F.type_str_isalpha mt_isalpha (pv 0)) (pe_one (pe_bm0 PySem.F.plainAttrs_str PySem.F.slot_str_islower PySem.F.type_str_islower mt_islower (pv 0)))))))), ?_⟩
    refine ⟨fun σ H' => σ = [some (.str x)] ∧ H' = H, ?_, ?_⟩
    · refine ⟨_, rfl, .str x, .ty "str", _, _, _, rfl, .ty "str", .base (.str x), kit_ty (r := true) (by decide +kernel), true, rfl, iteF ?_⟩
      exact ⟨_, rfl, _, rfl, Nat.le_trans hx.2.1 (by decide), _, _, rfl, rfl, _, rfl, by rw [decide_eq_false (by have := hx.2.1; omega)]; exact iteF ⟨rfl, rfl⟩⟩
    rintro σ H' ⟨rfl, rfl⟩
    refine ⟨_, rfl, rfl, _, rfl, rfl, trivial, _, rfl, ?_⟩
    rw [nm_ascii hx]
    refine iteT ⟨_, rfl, rfl, _, rfl, rfl, trivial, _, rfl, ?_⟩
    rw [nm_alpha hx]
    refine iteT ⟨_, rfl, rfl, _, rfl, rfl, trivial, ?_⟩
    rw [nm_lower hx]
    exact q
end
end Kd

namespace Kd
open PySem PySem.Spec PyProof.Rows L2 Hb St Sq Ow En
theorem at_map {α β : Type} {f : α → β} {l : List α} {i : Nat} {x : β} {d : α} (h : (l.map f)[i]? = some x) (k : l[i]? = some d) : x = f d := by
  rw [List.getElem?_map, k] at h
  exact (Option.some.inj h).symm
theorem at_mem {α : Type} {l : List α} {i : Nat} {d : α} (k : l[i]? = some d) : d ∈ l := List.mem_of_getElem? k
theorem all_true {bs : List V} {n : Nat} (h : All2 (fun (y : V) (_ : Nat) => y = .bl true) bs (List.range n)) : True := trivial
theorem bl_map {α : Type} {ys : List V} {ds : List α} {f : α → Bool} (h : All2 (fun (y : V) (d : α) => y = .bl (f d)) ys ds) : ys = (ds.map f).map V.bl := by
  rw [List.map_map]
  exact h.map_eq fun a b e => e
def nrm (s : Stp) : Stp := { s with need := lotS s.need, bar := lotS s.bar }
structure OkS (n : Int) (s : Stp) : Prop where
  b0 : 0 ≤ s.b
  b1 : s.b < n
  e0 : 0 ≤ s.e
  e1 : s.e < n
  nn : ∀ x ∈ s.need, IsNm x
  nb : ∀ x ∈ s.bar, IsNm x
  ln : s.need.length ≤ 1000
  lb : s.bar.length ≤ 1000
/-- all but the instances is as it was -/
def FixI (H H' : Hp) : Prop := ∀ b o, H b = some o → (∀ C d f, o ≠ .ins C d f) → H' b = some o
theorem FixI.of {H H' : Hp} (s : Same H H') : FixI H H' := fun b o e _ => s b o e
theorem FixI.trans {H H1 H2 : Hp} (a : FixI H H1) (b : FixI H1 H2) : FixI H H2 := fun c o e n => b c o (a c o e n) n
theorem FixI.ins {H : Hp} {p C d : Addr} {f : List (Str × V)} {o : HO} (e : H p = some (.ins C d f)) : FixI H (upd H p o) := fun b u eb n => by
  rw [upd_ne fun z => n C d f (by rw [z, e] at eb; exact (Option.some.inj eb).symm)]; exact eb
theorem tupI {K : PySem.W.Frag} {H H' : Hp} {a : Addr} {xs : List V} (f : FixI H H') (h : SqT K H a xs) : SqT K H' a xs := by
  rcases h with (e | ⟨o, e⟩) | r
  · exact .inl (.inl (f _ _ e (by intro _ _ _ z; cases z)))
  · exact .inl (.inr ⟨o, f _ _ e (by intro _ _ _ z; cases z)⟩)
  · exact .inr r
theorem _root_.St.SqX.fixI {K : PySem.W.Frag} {H H' : Hp} {a : Addr} {xs : List V} (h : SqX K H a xs) (f : FixI H H') : SqX K H' a xs := by
  rcases h with ((e | ⟨o, e⟩) | r) | h
  · exact .inl (.inl (.inl (f _ _ e (by intro _ _ _ z; cases z))))
  · exact .inl (.inl (.inr ⟨o, f _ _ e (by intro _ _ _ z; cases z)⟩))
  · exact .inl (.inr r)
  · exact .inr (tupI f h)
theorem SP.fixI {K : PySem.W.Frag} {H H' : Hp} {v : V} {s : Stp} (h : SP K H v s) (f : FixI H H') : SP K H' v s := let ⟨a, n, r, e, q, ⟨x, ex, q1, l1⟩, y, ey, q2, l2⟩ := h; ⟨a, n, r, e, tupI f q, ⟨x, ex, tupI f q1, l1⟩, y, ey, tupI f q2, l2⟩
theorem SI.fixI {K : PySem.W.Frag} {H H' : Hp} {v : V} {s : Stp} (h : SI K H v s) (f : FixI H H') : SI K H' v s := let ⟨a, n, r, e, q, ⟨x, ex, q1⟩, y, ey, q2⟩ := h; ⟨a, n, r, e, tupI f q, ⟨x, ex, q1.fixI f⟩, y, ey, q2.fixI f⟩
theorem _root_.Sq.All2.of_mapR {α β γ : Type} {R : α → γ → Prop} (f : β → γ) : ∀ {as : List α} {bs : List β}, All2 (fun a b => R a (f b)) as bs → All2 R as (bs.map f)
  | _, _, .nil => .nil
  | _, _, .cons h t => .cons h (of_mapR f t)
section
variable {P : Program} {w : World} {K : PySem.W.Frag} {mg : Str → Option Value} {base : Heap}
/-! ### is_name_row -/
abbrev s_is_name_row : Stmt := top 11
theorem sc_is_name_row : FnScope ["value", "name"] ["value"] (defScope s_is_name_row) := ⟨rfl, rfl, rfl, by decide +kernel, rfl, by decide +kernel, by decide +kernel⟩
def spIsNameRow (K : PySem.W.Frag) : Sp := fun vs H Q _ => ∃ (v : V) (ns : List Str), vs = [v] ∧ TX K H v ns ∧ (∀ x ∈ ns, IsNm x) ∧ ns.length ≤ 1000 ∧ ∀ H', Same H H' → Q (.bl true) H'
theorem ok_isNameRow {f : Addr} {fd : FuncData} (F : Fun K "is_name_row" "is_name_row" s_is_name_row f fd) (C_is_name : Cl P w K mg base "is_name" ["value"] [] 1 spIsName) (C_is_sequence : Cl P w K mg base "is_sequence" ["value"] [] 1 (spIsSeq K)) (n_all : mg "all" = none) : FnOk P w K mg base CX0 2 f fd ["value"] (spIsNameRow K) := by
  refine F.ok sc_is_name_row (fun vs H Q E h => ?_) (fun cdv A outer s H vs Q E hr h => ?_)
  · obtain ⟨_, _, rfl, _⟩ := h
    rfl
  · obtain ⟨_, ns, rfl, ⟨a, rfl, hx⟩, hn, hl, q⟩ := h
    refine ⟨_, (pss_one (ps_ret (pe_and (pe_use C_is_sequence (hr.mono (by decide)) rfl (pa_cons (pv 0) pa_nil)) (pe_one (pe_callB (cr_all rfl) (by rfl) n_all (by decide +kernel) (pa_cons (pe_lc (own := [("name", 1)]) (g := gName 1) rfl sc_is_name_row.nd (pi_seq (pv 0)) (blkOk_by (N := ["value", "name"]) (sc := defScope s_is_name_row) (by decide +kernel)) (fun _ _ _ _ _ => pg_name (i := 1) sc_is_name_row.nd rfl (Or.inl rfl)) (fun _ _ _ _ _ => pts_nil) (fun _ _ _ _ _ => pe_use C_is_name (hr.mono (by decide)) rfl (pa_cons (pv 1) pa_nil))) pa_nil)))))), ?_⟩
    refine ⟨_, rfl, a, _, rfl, hx, fun H1 s1 => ⟨true, rfl, iteT ?_⟩⟩
    refine ⟨_, rfl, a, _, rfl, sqxSame s1 hx, fun J S W s0 D hD => ?_⟩
    refine lc_mf (ds := ns) W (fun _ => true) (fun _ y _ => y = .bl true) s0 hD (by simp) (fun i x d H ex ed s m => ?_) (fun H ys s e al => ?_)
    · rw [at_map ex ed]
      exact ⟨rfl, _, rfl, d, rfl, hn d (at_mem ed), mf_yes m hD (fun _ _ _ _ _ h => h) ed (by omega) (Same.refl _) rfl rfl⟩
    · rw [List.filter_eq_self.mpr fun _ _ => rfl] at al
      have ey := bl_map (f := fun _ => true) al
      refine ⟨D, _, rfl, SqL.of (by rw [← ey]; exact e), ?_⟩
      have t : ((ns.map fun _ => true).all id) = true := by simp
      rw [t]
      exact q H (s1.trans s)
/-! ### as_lot -/
abbrev s_as_lot : Stmt := top 12
theorem sc_as_lot : FnScope ["values"] ["values"] (defScope s_as_lot) := ⟨rfl, rfl, rfl, by decide +kernel, rfl, by decide +kernel, by decide +kernel⟩
def spLot (K : PySem.W.Frag) : Sp := fun vs H Q _ => ∃ a : Addr, vs = [.ref a] ∧ ((∃ ns : List Str, SqX K H a (ns.map V.str) ∧ ns.length ≤ 1000 ∧ ∀ p H', Same H H' → H' p = some (.tup ((lotS ns).map V.str)) → Q (.ref p) H') ∨
  ∃ ns : List Int, SqX K H a (ns.map V.int) ∧ ns.length < 64 ∧ ∀ p H', Same H H' → H' p = some (.tup ((lotI ns).map V.int)) → Q (.ref p) H')
theorem ok_lot {f : Addr} {fd : FuncData} (F : Fun K "as_lot" "as_lot" s_as_lot f fd) (n_set : mg "set" = none) (n_sorted : mg "sorted" = none) (n_tuple : mg "tuple" = none) : FnOk P w K mg base CX0 1 f fd ["values"] (spLot K) := by
  refine F.ok sc_as_lot (fun vs H Q E h => ?_) (fun cdv A outer s H vs Q E hr h => ?_)
  · obtain ⟨_, rfl, _⟩ := h
    rfl
  · obtain ⟨a, rfl, h⟩ := h
    refine ⟨_, (pss_one (ps_ret (pe_callTy call_tuple_of (by rfl) n_tuple (by decide +kernel) (pa_cons (pe_callB (cr_sorted2 rfl) (by rfl) n_sorted (by decide +kernel) (pa_cons (pe_callTy (cr_set rfl) (by rfl) n_set (by decide +kernel) (pa_cons (pv 0) pa_nil)) pa_nil)) pa_nil)))), ?_⟩
    refine ⟨_, rfl, ?_⟩
    rcases h with ⟨ns, hx, hl, q⟩ | ⟨ns, hx, hl, q⟩
    · exact rd_lotS hx hl q
    · exact rd_lotI hx hl q
/-! ### is_state -/
abbrev s_is_state : Stmt := top 15
theorem sc_is_state : FnScope ["value", "states"] ["value", "states"] (defScope s_is_state) := ⟨rfl, rfl, rfl, by decide +kernel, rfl, by decide +kernel, by decide +kernel⟩
def spIsState : Sp := fun vs H Q _ => ∃ i n : Int, vs = [.int i, .int n] ∧ Q (.bl (decide (0 ≤ i ∧ i < n))) H
theorem ok_isState {f : Addr} {fd : FuncData} (F : Fun K "is_state" "is_state" s_is_state f fd) (C_is_number : Cl P w K mg base "is_number" ["value"] [] 2 spIsNum) : FnOk P w K mg base CX0 3 f fd ["value", "states"] spIsState := by
  refine F.ok sc_is_state (fun vs H Q E h => ?_) (fun cdv A outer s H vs Q E hr h => ?_)
  · obtain ⟨_, _, rfl, _⟩ := h
    rfl
  · obtain ⟨i, n, rfl, q⟩ := h
    refine ⟨_, (pss_one (ps_ret (pe_and (pe_use C_is_number (hr.mono (by decide)) rfl (pa_cons (pv 0) pa_nil)) (pe_one (pe_cmpR op_lt (pv 0) (pv 1) (nomark _)))))), ?_⟩
    refine ⟨_, rfl, i, rfl, _, rfl, ?_⟩
    by_cases c : 0 ≤ i
    · rw [decide_eq_true c]
      refine iteT ⟨_, rfl, _, rfl, _, _, rfl, rfl, ?_⟩
      rw [show (decide (0 ≤ i ∧ i < n)) = decide (i < n) by simp [c]] at q
      exact q
    · rw [decide_eq_false c]
      refine iteF ?_
      rw [show (decide (0 ≤ i ∧ i < n)) = false by simp [c]] at q
      exact q
/-! ### is_step -/
abbrev s_is_step : Stmt := top 16
theorem sc_is_step : FnScope ["value", "states", "begin", "need", "bar", "behind"] ["value", "states"] (defScope s_is_step) := ⟨rfl, rfl, rfl, by decide +kernel, rfl, by decide +kernel, by decide +kernel⟩
def spIsStep (K : PySem.W.Frag) : Sp := fun vs H Q _ => ∃ (v : V) (n : Int) (s : Stp), vs = [v, .int n] ∧ SI K H v s ∧ OkS n s ∧ ∀ H', Same H H' → Q (.bl true) H'
theorem ok_isStep {f : Addr} {fd : FuncData} (F : Fun K "is_step" "is_step" s_is_step f fd) (C_is_name_row : Cl P w K mg base "is_name_row" ["value"] [] 2 (spIsNameRow K)) (C_is_sequence : Cl P w K mg base "is_sequence" ["value"] [] 1 (spIsSeq K)) (C_is_state : Cl P w K mg base "is_state" ["value", "states"] [] 3 spIsState) (n_len : mg "len" = none) : FnOk P w K mg base CX0 4 f fd ["value", "states"] (spIsStep K) := by
  refine F.ok sc_is_step (fun vs H Q E h => ?_) (fun cdv A outer s H vs Q E hr h => ?_)
  · obtain ⟨_, _, _, rfl, _⟩ := h
    rfl
  · obtain ⟨_, n, s, rfl, ⟨a, x, y, rfl, ha, hx, hy⟩, ok, q⟩ := h
    refine ⟨_, (Evl.pss_cut (ps_if (PW.pt (pw_or (pt_not (pt_val (pe_use C_is_sequence (hr.mono (by decide)) rfl (pa_cons (pv 0) pa_nil)))) (pw_or1 (pt_cmpR op_ne (pe_callB call_len_seq (by rfl) n_len PySem.boot_len (pa_cons (pv 0) pa_nil)) pe_int (nomark _))))) (pss_one (ps_ret pe_bl)) pss_nil)
    (pss_cons (ps_asg (pv 0) (pg_tup rfl (pgs_cons (pg_name (i := 2) sc_is_step.nd rfl (Or.inl rfl)) (pgs_cons (pg_name (i := 3) sc_is_step.nd rfl (Or.inl rfl)) (pgs_cons (pg_name (i := 4) sc_is_step.nd rfl (Or.inl rfl)) (pgs_cons (pg_name (i := 5) sc_is_step.nd rfl (Or.inl rfl)) pgs_nil))))))
    (Evl.pss_cut (ps_if (PW.pt (pw_or (pt_not (pt_val (pe_use C_is_state (hr.mono (by decide)) rfl (pa_cons (pv 2) (pa_cons (pv 1) pa_nil))))) (pw_or1 (pt_not (pt_val (pe_use C_is_state (hr.mono (by decide)) rfl (pa_cons (pv 5) (pa_cons (pv 1) pa_nil)))))))) (pss_one (ps_ret pe_bl)) pss_nil)
    (pss_one (ps_ret (pe_and (pe_use C_is_name_row (hr.mono (by decide)) rfl (pa_cons (pv 3) pa_nil)) (pe_one (pe_use C_is_name_row (hr.mono (by decide)) rfl (pa_cons (pv 4) pa_nil))))))))), ?_⟩
    refine ⟨fun σ H' => σ = [some (.ref a), some (.int n), none, none, none, none] ∧ Same H H', ?_, ?_⟩
    · refine ⟨_, rfl, a, _, rfl, .inr ha, fun H1 s1 => ⟨true, rfl, iteF ?_⟩⟩
      refine ⟨_, rfl, a, _, rfl, .inr (tupFix (Fix.of s1) ha), rfl, _, rfl, ?_⟩
      exact iteF ⟨rfl, s1⟩
    rintro σ H1 ⟨rfl, s1⟩
    refine ⟨_, rfl, a, _, rfl, tupFix (Fix.of s1) ha, rfl, _, _, rfl, _, _, rfl, _, _, rfl, _, _, rfl, rfl, ?_⟩
    refine ⟨fun σ H' => σ = [some (.ref a), some (.int n), some (.int s.b), some x, some y, some (.int s.e)] ∧ H' = H1, ?_, ?_⟩
    · refine ⟨_, rfl, _, rfl, _, _, rfl, _, rfl, ?_⟩
      rw [decide_eq_true ⟨ok.b0, ok.b1⟩]
      refine iteF ⟨_, rfl, _, rfl, _, _, rfl, _, rfl, ?_⟩
      rw [decide_eq_true ⟨ok.e0, ok.e1⟩]
      exact iteF ⟨rfl, rfl⟩
    rintro σ H2 ⟨rfl, rfl⟩
    refine ⟨_, rfl, x, _, rfl, hx.same s1, ok.nn, ok.ln, fun H3 s3 => ⟨true, rfl, iteT ?_⟩⟩
    exact ⟨_, rfl, y, _, rfl, (hy.same s1).same s3, ok.nb, ok.lb, fun H4 s4 => q H4 ((s1.trans s3).trans s4)⟩
/-! ### __init__ -/
abbrev s_Wish___init__ : Stmt := inClass (top 14) 0
theorem sc_Wish___init__ : FnScope ["self", "states", "good", "steps", "at", "step", "begin", "need", "bar", "behind", "state"] ["self", "states", "good", "steps"] (defScope s_Wish___init__) := ⟨rfl, rfl, rfl, by decide +kernel, rfl, by decide +kernel, by decide +kernel⟩
def spInit (K : PySem.W.Frag) (C : Addr) : Sp := fun vs H Q _ => ∃ (x dx : Addr) (n : Int) (ga sa : Addr) (gs : List Int) (its : List V) (ss : List Stp), vs = [.ref x, .int n, .ref ga, .ref sa] ∧ H x = some (.ins C dx []) ∧ 1 ≤ n ∧ SqX K H ga (gs.map V.int) ∧ gs.length < 64 ∧
  (∀ g ∈ gs, 0 ≤ g ∧ g < n) ∧ SqX K H sa its ∧ All2 (SI K H) its ss ∧ ss.length ≤ 1000 ∧ (∀ s ∈ ss, OkS n s) ∧ ∀ H', Kept x H H' → WA K C H' (.ref x) ⟨n, lotI gs, ss.map nrm⟩ → Q .non H'
theorem ok_init {f : Addr} {fd : FuncData} (F : Fun K "__init__" "Wish.__init__" s_Wish___init__ f fd) (TC : Txt K mg C_Wish) (C_as_lot : Cl P w K mg base "as_lot" ["values"] [] 1 (spLot K)) (C_is_count : Cl P w K mg base "is_count" ["value"] [] 2 spIsCnt) (C_is_sequence : Cl P w K mg base "is_sequence" ["value"] [] 1 (spIsSeq K)) (C_is_state : Cl P w K mg base "is_state" ["value", "states"] [] 3 spIsState) (C_is_step : Cl P w K mg base "is_step" ["value", "states"] [] 4 (spIsStep K)) (n_all : mg "all" = none) (n_enumerate : mg "enumerate" = none) (n_tuple : mg "tuple" = none) : FnOk P w K mg base CX0 5 f fd ["self", "states", "good", "steps"] (spInit K C_Wish) := by
  refine F.ok sc_Wish___init__ (fun vs H Q E h => ?_) (fun cdv A outer s H vs Q E hr h => ?_)
  · obtain ⟨_, _, _, _, _, _, _, _, rfl, _⟩ := h
    rfl
  · obtain ⟨x, dx, n, ga, sa, gs, its, ss, rfl, hx, n1, hg, gl, gok, hst, hS, sl, sok, q⟩ := h
    refine ⟨_, (Evl.pss_cut (ps_if (pt_not (pt_val (pe_use C_is_count (hr.mono (by decide)) rfl (pa_cons (pv 1) pa_nil)))) (pss_one (ps_never)) pss_nil)
    (Evl.pss_cut (ps_if (PW.pt (pw_or (pt_not (pt_val (pe_use C_is_sequence (hr.mono (by decide)) rfl (pa_cons (pv 2) pa_nil)))) (pw_or1 (pt_not (pt_val (pe_callB (cr_all rfl) (by rfl) n_all (by decide +kernel) (pa_cons (pe_lc (own := [("state", 10)]) (g := gName 10) rfl sc_Wish___init__.nd (pi_seq (pv 2)) (blkOk_by (N := ["self", "states", "good", "steps", "at", "step", "begin", "need", "bar", "behind", "state"]) (sc := defScope s_Wish___init__) (by decide +kernel)) (fun _ _ _ _ _ => pg_name (i := 10) sc_Wish___init__.nd rfl (Or.inl rfl)) (fun _ _ _ _ _ => pts_nil) (fun _ _ _ _ _ => pe_use C_is_state (hr.mono (by decide)) rfl (pa_cons (pv 10) (pa_cons (pv 1) pa_nil)))) pa_nil))))))) (pss_one (ps_never)) pss_nil)
    (Evl.pss_cut (ps_if (pt_not (pt_val (pe_use C_is_sequence (hr.mono (by decide)) rfl (pa_cons (pv 3) pa_nil)))) (pss_one (ps_never)) pss_nil)
    (Evl.pss_cut (ps_for PassesOwn.never rfl (pi_or (pi_enum (by rfl) n_enumerate (pa_cons (pv 3) pa_nil)) (pi_enumT (by rfl) n_enumerate (pa_cons (pv 3) pa_nil))) (pg_tup rfl (pgs_cons (pg_name (i := 4) sc_Wish___init__.nd rfl (Or.inl rfl)) (pgs_cons (pg_name (i := 5) sc_Wish___init__.nd rfl (Or.inl rfl)) pgs_nil)))
      (pss_one (ps_if (pt_not (pt_val (pe_use C_is_step (hr.mono (by decide)) rfl (pa_cons (pv 5) (pa_cons (pv 1) pa_nil))))) (pss_one (ps_never)) pss_nil)))
    (pss_cons (ps_fld (pv 0) (pv 1) rfl)
    (pss_cons (ps_fld (pv 0) (pe_use C_as_lot (hr.mono (by decide)) rfl (pa_cons (pv 2) pa_nil)) rfl)
    (pss_one (ps_fld (pv 0) (pe_callTy call_tuple_of (by rfl) n_tuple (by decide +kernel) (pa_cons (pe_lc (own := [("begin", 6), ("need", 7), ("bar", 8), ("behind", 9)]) (g := gTup K 4 (gCons (gName 6) (gCons (gName 7) (gCons (gName 8) (gCons (gName 9) gNil))))) rfl sc_Wish___init__.nd (pi_seq (pv 3)) (blkOk_by (N := ["self", "states", "good", "steps", "at", "step", "begin", "need", "bar", "behind", "state"]) (sc := defScope s_Wish___init__) (by decide +kernel)) (fun _ _ _ _ _ => pg_tup rfl (pgs_cons (pg_name (i := 6) sc_Wish___init__.nd rfl (Or.inl rfl)) (pgs_cons (pg_name (i := 7) sc_Wish___init__.nd rfl (Or.inl rfl)) (pgs_cons (pg_name (i := 8) sc_Wish___init__.nd rfl (Or.inl rfl)) (pgs_cons (pg_name (i := 9) sc_Wish___init__.nd rfl (Or.inl rfl)) pgs_nil))))) (fun _ _ _ _ _ => pts_nil) (fun _ _ _ _ _ => pe_tup (pa_cons (pv 6) (pa_cons (pe_use C_as_lot (hr.mono (by decide)) rfl (pa_cons (pv 7) pa_nil)) (pa_cons (pe_use C_as_lot (hr.mono (by decide)) rfl (pa_cons (pv 8) pa_nil)) (pa_cons (pv 9) pa_nil)))))) pa_nil)) rfl)))))))), ?_⟩
    let σ0 : L2.St := [some (.ref x), some (.int n), some (.ref ga), some (.ref sa), none, none, none, none, none, none, none]
    refine ⟨fun σ H' => σ = σ0 ∧ H' = H, ?_, ?_⟩
    · refine ⟨_, rfl, n, rfl, _, rfl, ?_⟩
      rw [decide_eq_true n1]
      exact iteF ⟨rfl, rfl⟩
    rintro σ H1 ⟨rfl, rfl⟩
    refine ⟨fun σ H' => σ = σ0 ∧ Same H1 H', ?_, ?_⟩
    · refine ⟨_, rfl, ga, _, rfl, hg, fun H2 s2 => ⟨true, rfl, iteF ?_⟩⟩
      refine ⟨_, rfl, ga, _, rfl, sqxSame s2 hg, fun J S W s0 D hD => ?_⟩
      refine lc_mf (ds := gs) W (fun _ => true) (fun _ y _ => y = .bl true) s0 hD (by simp) (fun i y d H ex ed s m => ?_) (fun H ys s e al => ?_)
      · rw [at_map ex ed]
        refine ⟨rfl, _, rfl, _, rfl, d, n, rfl, ?_⟩
        rw [decide_eq_true (gok d (at_mem ed))]
        exact mf_yes m hD (fun _ _ _ _ _ h => h) ed (by omega) (Same.refl _) rfl rfl
      · rw [List.filter_eq_self.mpr fun _ _ => rfl] at al
        have ey := bl_map (f := fun _ => true) al
        refine ⟨D, _, rfl, SqL.of (by rw [← ey]; exact e), ?_⟩
        rw [show ((gs.map fun _ => true).all id) = true by simp]
        exact ⟨true, rfl, iteF ⟨rfl, s2.trans s⟩⟩
    rintro σ H2 ⟨rfl, s2⟩
    refine ⟨fun σ H' => σ = σ0 ∧ Same H1 H', ?_, ?_⟩
    · exact ⟨_, rfl, sa, _, rfl, sqxSame s2 hst, fun H3 s3 => ⟨true, rfl, iteF ⟨rfl, s2.trans s3⟩⟩⟩
    rintro σ H3 ⟨rfl, s3⟩
    refine ⟨fun σ H' => (∃ o1 o2, σ = [some (.ref x), some (.int n), some (.ref ga), some (.ref sa), o1, o2, none, none, none, none, none]) ∧ Same H1 H', ?_, ?_⟩
    · have turn : ∀ (i : Nat) (σ : L2.St) (H4 : Hp) (y : V) (T : Addr), its[i]? = some y → ((∃ o1 o2, σ = [some (.ref x), some (.int n), some (.ref ga), some (.ref sa), o1, o2, none, none, none, none, none]) ∧ Same H1 H4) → H4 T = none → True := fun _ _ _ _ _ _ _ _ => trivial
      rcases sqxSame s3 hst with hl | ht
      · refine .inl ⟨_, rfl, sa, _, rfl, hl, ?_⟩
        refine for_en en_list (fun i σ H' => (∃ o1 o2, σ = [some (.ref x), some (.int n), some (.ref ga), some (.ref sa), o1, o2, none, none, none, none, none]) ∧ Same H3 H') ⟨⟨none, none, rfl⟩, Same.refl _⟩ (fun i σ H' p => lstSame p.2 hl) ?_ (fun σ H' p => ⟨p.1, s3.trans p.2⟩)
        rintro i σ H4 y T ey ⟨⟨o1, o2, rfl⟩, s4⟩ hT
        obtain ⟨d, ed, hd⟩ := hS.get ey
        have s5 := same_new hT (.tup [.int (i : Nat), y])
        refine ⟨T, _, rfl, SqT.of upd_same, rfl, _, _, rfl, _, _, rfl, rfl, ?_⟩
        refine ⟨_, rfl, _, rfl, y, n, d, rfl, hd.same ((s3.trans s4).trans s5), sok d (at_mem ed), fun H6 s6 => ⟨true, rfl, iteF ⟨⟨_, _, rfl⟩, (s4.trans s5).trans s6⟩⟩⟩
      · refine .inr ⟨_, rfl, sa, rfl, ⟨_, ht⟩, ?_⟩
        refine for_en en_tup (fun i σ H' => (∃ o1 o2, σ = [some (.ref x), some (.int n), some (.ref ga), some (.ref sa), o1, o2, none, none, none, none, none]) ∧ Same H3 H') ⟨⟨none, none, rfl⟩, Same.refl _⟩ (fun i σ H' p => tupFix (Fix.of p.2) ht) ?_ (fun σ H' p => ⟨p.1, s3.trans p.2⟩)
        rintro i σ H4 y T ey ⟨⟨o1, o2, rfl⟩, s4⟩ hT
        obtain ⟨d, ed, hd⟩ := hS.get ey
        have s5 := same_new hT (.tup [.int (i : Nat), y])
        refine ⟨T, _, rfl, SqT.of upd_same, rfl, _, _, rfl, _, _, rfl, rfl, ?_⟩
        refine ⟨_, rfl, _, rfl, y, n, d, rfl, hd.same ((s3.trans s4).trans s5), sok d (at_mem ed), fun H6 s6 => ⟨true, rfl, iteF ⟨⟨_, _, rfl⟩, (s4.trans s5).trans s6⟩⟩⟩
    rintro σ H4 ⟨⟨o1, o2, rfl⟩, s4⟩
    have hx4 := s4 _ _ hx
    refine ⟨_, rfl, _, rfl, x, C_Wish, dx, [], rfl, hx4, TC.cl, TC.nS, (by show 0 < 1000; decide), ?_⟩
    have f5 : FixI H4 (upd H4 x (.ins C_Wish dx (putF "states" (.int n) []))) := FixI.ins hx4
    have k5 : Kept x H1 (upd H4 x (.ins C_Wish dx (putF "states" (.int n) []))) := (Hb.Same.kept s4).trans kept_upd
    have hx5 : upd H4 x (.ins C_Wish dx (putF "states" (.int n) [])) x = some (.ins C_Wish dx (putF "states" (.int n) [])) := upd_same
    generalize upd H4 x (.ins C_Wish dx (putF "states" (.int n) [])) = H5 at f5 k5 hx5 ⊢
    replace f5 := (FixI.of s4).trans f5
    refine ⟨_, rfl, ga, rfl, .inr ⟨gs, hg.fixI f5, gl, fun p H6 s6 e6 => ?_⟩⟩
    have hx6 := s6 _ _ hx5
    refine ⟨_, rfl, x, C_Wish, dx, _, rfl, hx6, TC.cl, TC.nG, (by show 1 < 1000; decide), ?_⟩
    have f7 : FixI H6 (upd H6 x (.ins C_Wish dx (putF "good" (.ref p) (putF "states" (.int n) [])))) := FixI.ins hx6
    have k7 : Kept x H1 (upd H6 x (.ins C_Wish dx (putF "good" (.ref p) (putF "states" (.int n) [])))) := (k5.trans (Hb.Same.kept s6)).trans kept_upd
    have hx7 : upd H6 x (.ins C_Wish dx (putF "good" (.ref p) (putF "states" (.int n) []))) x = some (.ins C_Wish dx (putF "good" (.ref p) (putF "states" (.int n) []))) := upd_same
    generalize upd H6 x (.ins C_Wish dx (putF "good" (.ref p) (putF "states" (.int n) []))) = H7 at f7 k7 hx7 ⊢
    have e7 : H7 p = some (.tup ((lotI gs).map V.int)) := f7 _ _ e6 (by intro _ _ _ z; cases z)
    replace f7 := (f5.trans (FixI.of s6)).trans f7
    refine ⟨_, rfl, sa, its, rfl, hst.fixI f7, fun J S W s0 D hD => ?_⟩
    refine lc_mf (ds := ss) W (fun _ => true) (fun H y d => SP K H y (nrm d)) s0 hD hS.len (fun i y d H ey ed s m => ?_) (fun H ys s e al => ?_)
    · obtain ⟨d', ed', hd⟩ := hS.get ey
      obtain rfl : d' = d := Option.some.inj (ed'.symm.trans ed)
      have ok := sok d' (at_mem ed)
      obtain ⟨ya, yn, yr, rfl, h0, ⟨na, rfl, h1⟩, ra, rfl, h2⟩ := (hd.fixI f7).same s
      refine ⟨ya, _, rfl, h0, rfl, _, _, rfl, _, _, rfl, _, _, rfl, _, _, rfl, rfl, rfl, ?_⟩
      refine ⟨_, rfl, _, rfl, na, rfl, .inl ⟨d'.need, h1, ok.ln, fun p1 G1 t1 e1 => ?_⟩⟩
      refine ⟨_, rfl, ra, rfl, .inl ⟨d'.bar, sqxSame t1 h2, ok.lb, fun p2 G2 t2 e2 => ?_⟩⟩
      refine ⟨_, rfl, by show 4 ≤ sizeLine; decide, fun t ht => ?_⟩
      have t3 := same_new ht (.tup [.int d'.b, .ref p1, .ref p2, .int d'.e])
      exact mf_yes m hD (fun _ _ _ _ f h => SP.fix f h) ed (by omega) ((t1.trans t2).trans t3) rfl ⟨t, .ref p1, .ref p2, rfl, SqT.of upd_same, ⟨p1, rfl, SqT.of (t3 _ _ (t2 _ _ e1)), Nat.le_trans (len_lotS _) ok.ln, fun x hx => ok.nn x (mem_lotS.mp hx)⟩, ⟨p2, rfl, SqT.of (t3 _ _ e2), Nat.le_trans (len_lotS _) ok.lb, fun x hx => ok.nb x (mem_lotS.mp hx)⟩⟩
    · rw [List.filter_eq_self.mpr fun _ _ => rfl] at al
      refine ⟨D, ys, rfl, .inl ⟨SqL.of e, fun l hl => ?_⟩⟩
      have sl1 := same_new hl (.tup ys)
      have e8 : upd H l (.tup ys) l = some (.tup ys) := upd_same
      generalize upd H l (.tup ys) = H8 at sl1 e8 ⊢
      have s8 : Same H7 H8 := s.trans sl1
      have hx8 := s8 _ _ hx7
      refine ⟨_, rfl, x, C_Wish, dx, _, rfl, hx8, TC.cl, TC.nT, (by show 2 < 1000; decide), ?_⟩
      refine q _ ((k7.trans (Hb.Same.kept s8)).trans kept_upd) ⟨x, dx, p, l, ys, rfl, upd_same, SqT.of ?_, SqT.of ?_, ?_⟩
      · exact FixI.ins hx8 _ _ (s8 _ _ e7) (by intro _ _ _ z; cases z)
      · exact FixI.ins hx8 _ _ e8 (by intro _ _ _ z; cases z)
      · exact ((al.imp fun _ _ h => (h.fix (Fix.of sl1)).fixI (FixI.ins hx8)).of_mapR nrm)
end
end Kd

namespace Kd
open PySem PySem.Spec PyProof.Rows L2 Hb St Sq Ow En
/-! ### what a wish does -/
def hit (t : Stp) (s : Int) (lot : List Str) : Bool := decide (t.b = s) && (t.need.all (fun x => decide (x ∈ lot)) && t.bar.all (fun x => !decide (x ∈ lot)))
def aft : List Stp → Int → List Str → Int
  | [], s, _ => s
  | t :: r, s, lot => if hit t s lot = true then t.e else aft r s lot
def endW (ss : List Stp) : Int → List (List Str) → Int
  | s, [] => s
  | s, lot :: r => endW ss (aft ss s lot) r
def namesOf (ss : List Stp) : List Str := ss.flatMap fun t => t.need ++ t.bar
theorem endW_snoc (ss : List Stp) : ∀ (s : Int) (l : List (List Str)) (x : List Str), endW ss s (l ++ [x]) = aft ss (endW ss s l) x
  | s, [], x => rfl
  | s, y :: l, x => endW_snoc ss (aft ss s y) l x
theorem inV_strs (x : Str) (ns : List Str) : inV (.str x) (ns.map V.str) = decide (x ∈ ns) := by
  unfold inV
  rw [List.any_map]
  induction ns with
  | nil => simp
  | cons y r ih =>
    rw [List.any_cons, ih]
    show (eqV (.str y) (.str x) || decide (x ∈ r)) = _
    have e : eqV (.str y) (.str x) = decide (x = y) := by
      show decide (_ = _) = _
      exact decide_eq_decide.mpr ⟨fun h => h.symm, fun h => h.symm⟩
    rw [e]
    simp [List.mem_cons]
theorem inV_ints (x : Int) (ns : List Int) : inV (.int x) (ns.map V.int) = decide (x ∈ ns) := by
  unfold inV
  rw [List.any_map]
  induction ns with
  | nil => simp
  | cons y r ih =>
    rw [List.any_cons, ih]
    show (eqV (.int y) (.int x) || decide (x ∈ r)) = _
    have e : eqV (.int y) (.int x) = decide (x = y) := by
      show decide (_ = _) = _
      exact decide_eq_decide.mpr ⟨fun h => h.symm, fun h => h.symm⟩
    rw [e]
    simp [List.mem_cons]
theorem flat_strs (ns : List Str) : (ns.map V.str).all flatV = true := by rw [List.all_map]; exact List.all_eq_true.mpr fun _ _ => rfl
theorem flat_ints (ns : List Int) : (ns.map V.int).all flatV = true := by rw [List.all_map]; exact List.all_eq_true.mpr fun _ _ => rfl
theorem in_strs {K : PySem.W.Frag} {H : Hp} {a : Addr} {ns : List Str} {x : Str} {Q : VK} (h : SqX K H a (ns.map V.str)) (q : Q (.bl (decide (x ∈ ns))) H) : rIn K false (.str x) (.ref a) H Q :=
  ⟨a, _, rfl, h, rfl, flat_strs ns, by rw [inV_strs]; exact q⟩
theorem nin_strs {K : PySem.W.Frag} {H : Hp} {a : Addr} {ns : List Str} {x : Str} {Q : VK} (h : SqX K H a (ns.map V.str)) (q : Q (.bl (!decide (x ∈ ns))) H) : rIn K true (.str x) (.ref a) H Q :=
  ⟨a, _, rfl, h, rfl, flat_strs ns, by rw [inV_strs]; exact q⟩
theorem in_ints {K : PySem.W.Frag} {H : Hp} {a : Addr} {ns : List Int} {x : Int} {Q : VK} (h : SqX K H a (ns.map V.int)) (q : Q (.bl (decide (x ∈ ns))) H) : rIn K false (.int x) (.ref a) H Q :=
  ⟨a, _, rfl, h, rfl, flat_ints ns, by rw [inV_ints]; exact q⟩
theorem nin_ints {K : PySem.W.Frag} {H : Hp} {a : Addr} {ns : List Int} {x : Int} {Q : VK} (h : SqX K H a (ns.map V.int)) (q : Q (.bl (!decide (x ∈ ns))) H) : rIn K true (.int x) (.ref a) H Q :=
  ⟨a, _, rfl, h, rfl, flat_ints ns, by rw [inV_ints]; exact q⟩
/-! ### data of steps, by == -/
def dS (xs : List Str) : PyData := .tuple (xs.map .str)
def dStp (s : Stp) : PyData := .tuple [.int s.b, dS s.need, dS s.bar, .int s.e]
theorem eqv_int (a b : Int) : PyData.eqv (.int a) (.int b) = decide (a = b) := by
  show (a == b) = _
  by_cases h : a = b
  · subst h; simp
  · simp [h]
theorem eqv_str (a b : Str) : PyData.eqv (.str a) (.str b) = decide (a = b) := by
  show (a == b) = _
  by_cases h : a = b
  · subst h; simp
  · rw [decide_eq_false h]; exact beq_eq_false_iff_ne.mpr h
theorem eqvAll_map {α : Type} [DecidableEq α] {f : α → PyData} (h : ∀ a b, PyData.eqv (f a) (f b) = decide (a = b)) : ∀ xs ys : List α, PyData.eqvAll (xs.map f) (ys.map f) = decide (xs = ys)
  | [], [] => rfl
  | [], _ :: _ => rfl
  | _ :: _, [] => rfl
  | x :: xs, y :: ys => by
    show (PyData.eqv (f x) (f y) && PyData.eqvAll (xs.map f) (ys.map f)) = _
    rw [h, eqvAll_map h xs ys, ← Bool.decide_and]
    exact decide_eq_decide.mpr (by rw [List.cons.injEq])
theorem eqv_dS (a b : List Str) : PyData.eqv (dS a) (dS b) = decide (a = b) := eqvAll_map eqv_str a b
theorem eqv_dI (a b : List Int) : PyData.eqv (.tuple (a.map .int)) (.tuple (b.map .int)) = decide (a = b) := eqvAll_map eqv_int a b
theorem eqv_stp (s t : Stp) : PyData.eqv (dStp s) (dStp t) = decide (s = t) := by
  show (PyData.eqv (.int s.b) (.int t.b) && (PyData.eqv (dS s.need) (dS t.need) && (PyData.eqv (dS s.bar) (dS t.bar) && (PyData.eqv (.int s.e) (.int t.e) && true)))) = _
  rw [eqv_int, eqv_dS, eqv_dS, eqv_int, Bool.and_true, ← Bool.decide_and, ← Bool.decide_and, ← Bool.decide_and]
  exact decide_eq_decide.mpr (by cases s; cases t; simp)
theorem eqv_stps (a b : List Stp) : PyData.eqv (.tuple (a.map dStp)) (.tuple (b.map dStp)) = decide (a = b) := eqvAll_map eqv_stp a b
/-- may be compared, no deeper than n -/
def Sh (n : Nat) (d : PyData) : Prop := PyData.canLay0 d = true ∧ PyData.depth d ≤ n
theorem sh_all {α : Type} {f : α → PyData} {n : Nat} : ∀ {l : List α}, (∀ a ∈ l, Sh n (f a)) → PyData.canLayAll0 (l.map f) = true ∧ PyData.depthAll (l.map f) ≤ n
  | [], _ => ⟨rfl, Nat.zero_le _⟩
  | a :: l, h => by
    obtain ⟨h1, h2⟩ := h a List.mem_cons_self
    obtain ⟨k1, k2⟩ := sh_all fun b hb => h b (List.mem_cons_of_mem a hb)
    refine ⟨?_, Nat.max_le.mpr ⟨h2, k2⟩⟩
    show (PyData.canLay0 (f a) && PyData.canLayAll0 (l.map f)) = true
    rw [h1, k1]; rfl
theorem sh_tup {α : Type} {f : α → PyData} {n : Nat} {l : List α} (h : ∀ a ∈ l, Sh n (f a)) : Sh (n + 1) (.tuple (l.map f)) := let ⟨a, b⟩ := sh_all h; ⟨a, Nat.succ_le_succ b⟩
theorem sh_lst {α : Type} {f : α → PyData} {n : Nat} {l : List α} (h : ∀ a ∈ l, Sh n (f a)) : Sh (n + 1) (.list (l.map f)) := let ⟨a, b⟩ := sh_all h; ⟨a, Nat.succ_le_succ b⟩
theorem Sh.ok {n : Nat} {d : PyData} (h : Sh n d) (hn : n ≤ 64) : SeqAt.shaped d = true := by
  unfold SeqAt.shaped
  rw [h.1, decide_eq_true (Nat.le_trans h.2 hn)]; rfl
theorem sh_int (n : Nat) (i : Int) : Sh n (.int i) := ⟨rfl, Nat.zero_le _⟩
theorem sh_str {n : Nat} {x : Str} (h : IsNm x) : Sh n (.str x) := ⟨nm_all h fun c hc => decide_eq_true (by omega), Nat.zero_le _⟩
theorem sh_ints (xs : List Int) : Sh 1 (.tuple (xs.map .int)) := sh_tup fun a _ => sh_int 0 a
theorem sh_dS {xs : List Str} (h : ∀ x ∈ xs, IsNm x) : Sh 1 (dS xs) := sh_tup fun a ha => sh_str (h a ha)
def NmS (s : Stp) : Prop := (∀ x ∈ s.need, IsNm x) ∧ ∀ x ∈ s.bar, IsNm x
theorem sh_stp {s : Stp} (h : NmS s) : Sh 2 (dStp s) := sh_tup (f := id) (l := [.int s.b, dS s.need, dS s.bar, .int s.e]) fun d hd => by
  simp only [List.mem_cons, List.not_mem_nil, or_false] at hd
  rcases hd with rfl | rfl | rfl | rfl
  · exact sh_int _ _
  · exact sh_dS h.1
  · exact sh_dS h.2
  · exact sh_int _ _
section
variable {K : PySem.W.Frag} {H : Hp}
theorem dp_strs : ∀ xs : List Str, DpAll K H (xs.map V.str) (xs.map PyData.str)
  | [] => .nil
  | x :: xs => .cons (.str x) (dp_strs xs)
theorem dp_intl : ∀ xs : List Int, DpAll K H (xs.map V.int) (xs.map PyData.int)
  | [] => .nil
  | x :: xs => .cons (.int x) (dp_intl xs)
theorem TS_.dp {v : V} {xs : List Str} (h : TS_ K H v xs) : Dp K H v (dS xs) := by
  obtain ⟨a, rfl, q, _⟩ := h
  exact .tup q (dp_strs xs)
theorem SP.dp {v : V} {s : Stp} (h : SP K H v s) : Dp K H v (dStp s) := by
  obtain ⟨a, n, r, rfl, q, q1, q2⟩ := h
  exact .tup q (.cons (.int _) (.cons q1.dp (.cons q2.dp (.cons (.int _) .nil))))
theorem dp_all {α : Type} {R : V → α → Prop} {f : α → PyData} (h : ∀ v a, R v a → Dp K H v (f a)) : ∀ {vs : List V} {ds : List α}, All2 R vs ds → DpAll K H vs (ds.map f)
  | _, _, .nil => .nil
  | _, _, .cons r t => .cons (h _ _ r) (dp_all h t)
end
theorem SP.nm {K : PySem.W.Frag} {H : Hp} {v : V} {s : Stp} (h : SP K H v s) : NmS s := by
  obtain ⟨_, _, _, _, _, ⟨_, _, _, _, a⟩, _, _, _, _, b⟩ := h
  exact ⟨a, b⟩
theorem sp_nms {K : PySem.W.Frag} {H : Hp} {its : List V} {ss : List Stp} (h : All2 (SP K H) its ss) : ∀ s ∈ ss, NmS s := fun s hs => by
  obtain ⟨i, hi, e⟩ := List.getElem_of_mem hs
  obtain ⟨v, _, r⟩ := h.getR (List.getElem?_eq_getElem hi)
  rw [e] at r
  exact r.nm
section
variable {P : Program} {w : World} {K : PySem.W.Frag} {mg : Str → Option Value} {base : Heap}
/-- Wish(n, good, steps) -/
theorem new_wish {C : Addr} {H : Hp} {n : Int} {ga sa : Addr} {gs : List Int} {its : List V} {ss : List Stp} {Q : VK} {dvs : List V} (hdv : dvs = []) (n1 : 1 ≤ n) (hg : SqX K H ga (gs.map V.int)) (gl : gs.length < 64) (gok : ∀ g ∈ gs, 0 ≤ g ∧ g < n) (hs : SqX K H sa its) (hS : All2 (SI K H) its ss)
    (sl : ss.length ≤ 1000) (sok : ∀ s ∈ ss, OkS n s) (q : ∀ x H', Same H H' → WA K C H' (.ref x) ⟨n, lotI gs, ss.map nrm⟩ → Q (.ref x) H') :
    ∀ x dx, H x = none → H dx = none → dx ≠ x → spInit K C (.ref x :: ([.int n, .ref ga, .ref sa] ++ dvs)) (upd (upd H dx (.own x)) x (.ins C dx [])) (fun v H2 => v = .non ∧ Q (.ref x) H2) E0 := by
  intro x dx hx hdx ne
  subst hdv
  have s2 : Same H (upd (upd H dx (.own x)) x (.ins C dx [])) := fun b o e => by
    rw [upd_ne (ne_of_none e hx), upd_ne (ne_of_none e hdx)]; exact e
  refine ⟨x, dx, n, ga, sa, gs, its, ss, rfl, upd_same, n1, sqxSame s2 hg, gl, gok, sqxSame s2 hs, hS.imp fun _ _ h => h.same s2, sl, sok, fun H' k hw => ⟨rfl, q x H' (fun b o e => k b o (s2 b o e) (ne_of_none e hx)) hw⟩⟩
/-! ### __eq__ -/
abbrev s_Wish___eq__ : Stmt := inClass (top 14) 1
theorem sc_Wish___eq__ : FnScope ["self", "other"] ["self", "other"] (defScope s_Wish___eq__) := ⟨rfl, rfl, rfl, by decide +kernel, rfl, by decide +kernel, by decide +kernel⟩
def spWEq (K : PySem.W.Frag) (C : Addr) : Sp := fun vs H Q _ => ∃ (x y : V) (W : Wd), vs = [x, y] ∧ WA K C H x W ∧ ((∃ U, WA K C H y U ∧ Q (.bl (decide (W = U))) H) ∨ ∃ b xs, y = .ref b ∧ H b = some (.lst xs) ∧ Q (.bl false) H)
theorem ok_weq {f : Addr} {fd : FuncData} (F : Fun K "__eq__" "Wish.__eq__" s_Wish___eq__ f fd) (TC : Txt K mg C_Wish) (g_Wish : mg "Wish" = some (.ref C_Wish)) (n_isinstance : mg "isinstance" = none) : FnOk P w K mg base CX0 1 f fd ["self", "other"] (spWEq K C_Wish) := by
  refine F.ok sc_Wish___eq__ (fun vs H Q E h => ?_) (fun cdv A outer s H vs Q E hr h => ?_)
  · obtain ⟨_, _, _, rfl, _⟩ := h
    rfl
  · obtain ⟨_, y, W, rfl, ⟨a, dx, ga, sa, its, rfl, q0, q1, q2, q3⟩, hy⟩ := h
    refine ⟨_, (Evl.pss_cut (ps_if (pt_not (pt_val (pe_callB call_isi (by rfl) n_isinstance (by decide +kernel) (pa_cons (pv 1) (pa_cons (pe_glob (v := .ref C_Wish) (by rfl) g_Wish rfl) pa_nil))))) (pss_one (ps_ret pe_bl)) pss_nil)
    (pss_one (ps_ret (pe_and (pe_cmpR op_eq (pe_fld (pv 0) rfl) (pe_fld (pv 1) rfl) (nomark _)) (pe_and (pe_cmpR (op_eqD hr.units) (pe_fld (pv 0) rfl) (pe_fld (pv 1) rfl) (nomark _)) (pe_one (pe_cmpR (op_eqD hr.units) (pe_fld (pv 0) rfl) (pe_fld (pv 1) rfl) (nomark _)))))))), ?_⟩
    rcases hy with ⟨U, ⟨b, dy, gb, sb, jts, rfl, r0, r1, r2, r3⟩, q⟩ | ⟨b, xs, rfl, hb, q⟩
    · refine ⟨fun σ H' => σ = [some (.ref a), some (.ref b)] ∧ H' = H, ?_, ?_⟩
      · exact ⟨_, rfl, _, _, _, _, true, rfl, .own C_Wish, .base (.ins r0 TC.cl TC.x1 TC.x2 TC.x3 TC.x4), TC.kC, true, rfl, iteF ⟨rfl, rfl⟩⟩
      rintro σ H' ⟨rfl, rfl⟩
      refine ⟨_, rfl, a, C_Wish, dx, _, _, rfl, q0, TC.cl, TC.nS, fl_states _ _ _, _, rfl, b, C_Wish, dy, _, _, rfl, r0, TC.cl, TC.nS, fl_states _ _ _, rfl, _, rfl, ?_⟩
      have e0 : decide ((V.int W.n) = V.int U.n) = decide (W.n = U.n) := decide_eq_decide.mpr (by simp)
      rw [e0]
      by_cases c0 : W.n = U.n
      · rw [decide_eq_true c0]
        refine iteT ⟨_, rfl, a, C_Wish, dx, _, _, rfl, q0, TC.cl, TC.nG, fl_good _ _ _, _, rfl, b, C_Wish, dy, _, _, rfl, r0, TC.cl, TC.nG, fl_good _ _ _, _, _, .tup q1 (dp_intl _), .tup r1 (dp_intl _), (sh_ints _).ok (by decide), (sh_ints _).ok (by decide), _, rfl, ?_⟩
        rw [eqv_dI]
        by_cases c1 : W.good = U.good
        · rw [decide_eq_true c1]
          refine iteT ⟨_, rfl, a, C_Wish, dx, _, _, rfl, q0, TC.cl, TC.nT, fl_steps _ _ _, _, rfl, b, C_Wish, dy, _, _, rfl, r0, TC.cl, TC.nT, fl_steps _ _ _, _, _, .tup q2 (dp_all (f := dStp) (fun _ _ => SP.dp) q3), .tup r2 (dp_all (f := dStp) (fun _ _ => SP.dp) r3), (sh_tup (f := dStp) fun s hs => sh_stp (sp_nms q3 s hs)).ok (by decide), (sh_tup (f := dStp) fun s hs => sh_stp (sp_nms r3 s hs)).ok (by decide), ?_⟩
          rw [eqv_stps]
          have e2 : decide (W = U) = decide (W.steps = U.steps) := decide_eq_decide.mpr ⟨fun h => by rw [h], fun h => by cases W; cases U; simp_all⟩
          rw [e2] at q
          exact q
        · rw [decide_eq_false c1]
          refine iteF ?_
          rw [decide_eq_false fun h => c1 (by rw [h])] at q
          exact q
      · rw [decide_eq_false c0]
        refine iteF ?_
        rw [decide_eq_false fun h => c0 (by rw [h])] at q
        exact q
    · refine ⟨fun _ _ => False, ?_, fun _ _ h => h.elim⟩
      exact ⟨_, rfl, _, _, _, _, false, rfl, .own C_Wish, .base (.lst hb), TC.kL, false, rfl, iteT q⟩
/-! ### has_all, has_none -/
abbrev s_has_all : Stmt := top 17
theorem sc_has_all : FnScope ["names", "some", "name"] ["names", "some"] (defScope s_has_all) := ⟨rfl, rfl, rfl, by decide +kernel, rfl, by decide +kernel, by decide +kernel⟩
def spAll (K : PySem.W.Frag) : Sp := fun vs H Q _ => ∃ (l u : V) (lot xs : List Str), vs = [l, u] ∧ TX K H l lot ∧ TS_ K H u xs ∧ ∀ H', Same H H' → Q (.bl (xs.all fun x => decide (x ∈ lot))) H'
theorem ok_all {f : Addr} {fd : FuncData} (F : Fun K "has_all" "has_all" s_has_all f fd) (n_all : mg "all" = none) : FnOk P w K mg base CX0 1 f fd ["names", "some"] (spAll K) := by
  refine F.ok sc_has_all (fun vs H Q E h => ?_) (fun cdv A outer s H vs Q E hr h => ?_)
  · obtain ⟨_, _, _, _, rfl, _⟩ := h
    rfl
  · obtain ⟨_, _, lot, xs, rfl, ⟨a, rfl, ha⟩, ⟨b, rfl, hb, hl, _⟩, q⟩ := h
    refine ⟨_, (pss_one (ps_ret (pe_callB (cr_all rfl) (by rfl) n_all (by decide +kernel) (pa_cons (pe_lc (own := [("name", 2)]) (g := gName 2) rfl sc_has_all.nd (pi_seq (pv 1)) (blkOk_by (N := ["names", "some", "name"]) (sc := defScope s_has_all) (by decide +kernel)) (fun _ _ _ _ _ => pg_name (i := 2) sc_has_all.nd rfl (Or.inl rfl)) (fun _ _ _ _ _ => pts_nil) (fun _ _ _ _ _ => pe_cmpR (r := rIn K false) op_in_seq (pv 2) (pv 0) rfl)) pa_nil)))), ?_⟩
    refine ⟨_, rfl, b, _, rfl, .inr hb, fun J S W s0 D hD => ?_⟩
    refine lc_mf (ds := xs) W (fun _ => true) (fun _ y d => y = .bl (decide (d ∈ lot))) s0 hD (by simp) (fun i x d H ex ed s m => ?_) (fun H ys s e al => ?_)
    · rw [at_map ex ed]
      exact ⟨rfl, _, rfl, _, rfl, in_strs (sqxSame s ha) (mf_yes m hD (fun _ _ _ _ _ h => h) ed (by omega) (Same.refl _) rfl rfl)⟩
    · rw [List.filter_eq_self.mpr fun _ _ => rfl] at al
      have ey := bl_map (f := fun d => decide (d ∈ lot)) al
      refine ⟨D, _, rfl, SqL.of (by rw [← ey]; exact e), ?_⟩
      rw [show ((xs.map fun d => decide (d ∈ lot)).all id) = xs.all fun x => decide (x ∈ lot) by rw [List.all_map]; rfl]
      exact q H s
abbrev s_has_none : Stmt := top 18
theorem sc_has_none : FnScope ["names", "some", "name"] ["names", "some"] (defScope s_has_none) := ⟨rfl, rfl, rfl, by decide +kernel, rfl, by decide +kernel, by decide +kernel⟩
def spNone (K : PySem.W.Frag) : Sp := fun vs H Q _ => ∃ (l u : V) (lot xs : List Str), vs = [l, u] ∧ TX K H l lot ∧ TS_ K H u xs ∧ ∀ H', Same H H' → Q (.bl (xs.all fun x => !decide (x ∈ lot))) H'
theorem ok_none {f : Addr} {fd : FuncData} (F : Fun K "has_none" "has_none" s_has_none f fd) (n_all : mg "all" = none) : FnOk P w K mg base CX0 1 f fd ["names", "some"] (spNone K) := by
  refine F.ok sc_has_none (fun vs H Q E h => ?_) (fun cdv A outer s H vs Q E hr h => ?_)
  · obtain ⟨_, _, _, _, rfl, _⟩ := h
    rfl
  · obtain ⟨_, _, lot, xs, rfl, ⟨a, rfl, ha⟩, ⟨b, rfl, hb, hl, _⟩, q⟩ := h
    refine ⟨_, (pss_one (ps_ret (pe_callB (cr_all rfl) (by rfl) n_all (by decide +kernel) (pa_cons (pe_lc (own := [("name", 2)]) (g := gName 2) rfl sc_has_none.nd (pi_seq (pv 1)) (blkOk_by (N := ["names", "some", "name"]) (sc := defScope s_has_none) (by decide +kernel)) (fun _ _ _ _ _ => pg_name (i := 2) sc_has_none.nd rfl (Or.inl rfl)) (fun _ _ _ _ _ => pts_nil) (fun _ _ _ _ _ => pe_cmpR (r := rIn K true) op_notIn_seq (pv 2) (pv 0) rfl)) pa_nil)))), ?_⟩
    refine ⟨_, rfl, b, _, rfl, .inr hb, fun J S W s0 D hD => ?_⟩
    refine lc_mf (ds := xs) W (fun _ => true) (fun _ y d => y = .bl (!decide (d ∈ lot))) s0 hD (by simp) (fun i x d H ex ed s m => ?_) (fun H ys s e al => ?_)
    · rw [at_map ex ed]
      exact ⟨rfl, _, rfl, _, rfl, nin_strs (sqxSame s ha) (mf_yes m hD (fun _ _ _ _ _ h => h) ed (by omega) (Same.refl _) rfl rfl)⟩
    · rw [List.filter_eq_self.mpr fun _ _ => rfl] at al
      have ey := bl_map (f := fun d => !decide (d ∈ lot)) al
      refine ⟨D, _, rfl, SqL.of (by rw [← ey]; exact e), ?_⟩
      rw [show ((xs.map fun d => !decide (d ∈ lot)).all id) = xs.all fun x => !decide (x ∈ lot) by rw [List.all_map]; rfl]
      exact q H s
/-! ### after, end, takes, rung_bells -/
abbrev s_Wish_after : Stmt := inClass (top 14) 3
theorem sc_Wish_after : FnScope ["self", "state", "lot", "begin", "need", "bar", "behind"] ["self", "state", "lot"] (defScope s_Wish_after) := ⟨rfl, rfl, rfl, by decide +kernel, rfl, by decide +kernel, by decide +kernel⟩
def spAfter (K : PySem.W.Frag) (C : Addr) : Sp := fun vs H Q _ => ∃ (v l : V) (s : Int) (W : Wd) (lot : List Str), vs = [v, .int s, l] ∧ WA K C H v W ∧ TX K H l lot ∧ ∀ H', Same H H' → Q (.int (aft W.steps s lot)) H'
theorem ok_after {f : Addr} {fd : FuncData} (F : Fun K "after" "Wish.after" s_Wish_after f fd) (TC : Txt K mg C_Wish) (C_has_all : Cl P w K mg base "has_all" ["names", "some"] [] 1 (spAll K)) (C_has_none : Cl P w K mg base "has_none" ["names", "some"] [] 1 (spNone K)) : FnOk P w K mg base CX0 2 f fd ["self", "state", "lot"] (spAfter K C_Wish) := by
  refine F.ok sc_Wish_after (fun vs H Q E h => ?_) (fun cdv A outer s H vs Q E hr h => ?_)
  · obtain ⟨_, _, _, _, _, rfl, _⟩ := h
    rfl
  · obtain ⟨_, l, st, W, lot, rfl, ⟨a, dx, ga, sa, its, rfl, q0, q1, q2, q3⟩, hl, q⟩ := h
    refine ⟨_, (Evl.pss_cut (ps_for PassesOwn.never rfl (pi_seq (pe_fld (pv 0) rfl)) (pg_tup rfl (pgs_cons (pg_name (i := 3) sc_Wish_after.nd rfl (Or.inl rfl)) (pgs_cons (pg_name (i := 4) sc_Wish_after.nd rfl (Or.inl rfl)) (pgs_cons (pg_name (i := 5) sc_Wish_after.nd rfl (Or.inl rfl)) (pgs_cons (pg_name (i := 6) sc_Wish_after.nd rfl (Or.inl rfl)) pgs_nil)))))
      (pss_one (ps_if (PW.pt (pw_and (pt_cmpR op_eq (pv 3) (pv 1) (nomark _)) (pw_and (pt_val (pe_use C_has_all (hr.mono (by decide)) rfl (pa_cons (pv 2) (pa_cons (pv 4) pa_nil)))) (pw_and1 (pt_val (pe_use C_has_none (hr.mono (by decide)) rfl (pa_cons (pv 2) (pa_cons (pv 5) pa_nil)))))))) (pss_one (ps_ret (pv 6))) pss_nil)))
    (pss_one (ps_ret (pv 1)))), ?_⟩
    refine ⟨fun σ H' => (∃ o1 o2 o3 o4, σ = [some (.ref a), some (.int st), some l, o1, o2, o3, o4]) ∧ Same H H' ∧ aft W.steps st lot = st, ?_, ?_⟩
    · refine ⟨_, rfl, a, C_Wish, dx, _, _, rfl, q0, TC.cl, TC.nT, fl_steps _ _ _, sa, _, rfl, .inr q2, fun J S Wk s0 => ?_⟩
      refine for_sq Wk (fun i σ H' => (∃ o1 o2 o3 o4, σ = [some (.ref a), some (.int st), some l, o1, o2, o3, o4]) ∧ Same H H' ∧ aft W.steps st lot = aft (W.steps.drop i) st lot) ⟨⟨none, none, none, none, rfl⟩, Same.refl _, rfl⟩ (fun i σ H' p => Wk.keep (fun o e => p.2.1 _ _ e) s0) ?_ ?_
      · rintro i σ H1 y ey ⟨⟨o1, o2, o3, o4, rfl⟩, s1, e1⟩
        obtain ⟨d, ed, hd⟩ := q3.get ey
        obtain ⟨ya, yn, yr, rfl, h0, h1, h2⟩ := hd.fix (Fix.of s1)
        have hi : i < W.steps.length := (List.getElem?_eq_some_iff.mp ed).1
        have edr : W.steps.drop i = d :: W.steps.drop (i + 1) := by rw [List.drop_eq_getElem_cons hi, (List.getElem?_eq_some_iff.mp ed).2]
        rw [edr] at e1
        refine ⟨ya, _, rfl, h0, rfl, _, _, rfl, _, _, rfl, _, _, rfl, _, _, rfl, rfl, ?_⟩
        refine ⟨_, rfl, _, rfl, rfl, _, rfl, ?_⟩
        have ee : decide (V.int d.b = V.int st) = decide (d.b = st) := decide_eq_decide.mpr (by simp)
        rw [ee]
        by_cases c0 : d.b = st
        · rw [decide_eq_true c0]
          refine iteT ⟨_, rfl, _, rfl, l, yn, lot, _, rfl, hl.same s1, h1, fun H2 s2 => ⟨_, rfl, ?_⟩⟩
          cases c1 : d.need.all fun x => decide (x ∈ lot) with
          | true =>
            refine iteT ⟨_, rfl, _, rfl, l, yr, lot, _, rfl, (hl.same s1).same s2, h2.fix (Fix.of s2), fun H3 s3 => ⟨_, rfl, ?_⟩⟩
            cases c2 : d.bar.all fun x => !decide (x ∈ lot) with
            | true =>
              refine iteT ⟨_, rfl, ?_⟩
              have e2 : aft W.steps st lot = d.e := by rw [e1]; show (if hit d st lot = true then _ else _) = _; unfold hit; rw [c1, c2, decide_eq_true c0]; rfl
              rw [← e2]
              exact q H3 ((s1.trans s2).trans s3)
            | false =>
              refine iteF ⟨⟨_, _, _, _, rfl⟩, (s1.trans s2).trans s3, ?_⟩
              rw [e1]; show (if hit d st lot = true then _ else _) = _; unfold hit; rw [c1, c2, decide_eq_true c0]; rfl
          | false =>
            refine iteF ⟨⟨_, _, _, _, rfl⟩, s1.trans s2, ?_⟩
            rw [e1]; show (if hit d st lot = true then _ else _) = _; unfold hit; rw [c1, decide_eq_true c0]; rfl
        · rw [decide_eq_false c0]
          refine iteF ⟨⟨_, _, _, _, rfl⟩, s1, ?_⟩
          rw [e1]; show (if hit d st lot = true then _ else _) = _; unfold hit; rw [decide_eq_false c0]; rfl
      · rintro σ H1 ⟨p, s1, e1⟩
        refine ⟨p, s1, ?_⟩
        rw [e1, q3.len, List.drop_length]; rfl
    rintro σ H1 ⟨⟨o1, o2, o3, o4, rfl⟩, s1, e1⟩
    refine ⟨_, rfl, ?_⟩
    have := q H1 s1
    rw [e1] at this
    exact this
abbrev s_Wish_end : Stmt := inClass (top 14) 4
theorem sc_Wish_end : FnScope ["self", "tale", "state", "lot"] ["self", "tale", "state"] (defScope s_Wish_end) := ⟨rfl, rfl, rfl, by decide +kernel, rfl, by decide +kernel, by decide +kernel⟩
def spEnd (K : PySem.W.Frag) (C : Addr) : Sp := fun vs H Q _ => ∃ (v : V) (ta : Addr) (s : Int) (W : Wd) (its : List V) (tale : List (List Str)), vs = [v, .ref ta, .int s] ∧ WA K C H v W ∧ SqX K H ta its ∧ All2 (TX K H) its tale ∧ ∀ H', Same H H' → Q (.int (endW W.steps s tale)) H'
theorem tx_all {H H' : Hp} {its : List V} {tale : List (List Str)} (s : Same H H') (h : All2 (TX K H) its tale) : All2 (TX K H') its tale := h.imp fun _ _ q => q.same s
theorem ok_end {f : Addr} {fd : FuncData} (F : FunD K "end" "Wish.end" (defArgs s_Wish_end) (defBody s_Wish_end) (defScope s_Wish_end) [.int 0] [] f fd) (TC : Txt K mg C_Wish) (D_after : Ch P w K mg base C_Wish "after" ["self", "state", "lot"] [] 2 (spAfter K C_Wish)) : FnOk P w K mg base CX0 3 f fd ["self", "tale", "state"] (spEnd K C_Wish) := by
  refine F.ok sc_Wish_end (fun vs H Q E h => ?_) (fun cdv A outer s H vs Q E hr h => ?_)
  · obtain ⟨_, _, _, _, _, _, rfl, _⟩ := h
    rfl
  · obtain ⟨v, ta, st, W, its, tale, rfl, hw, ht, hT, q⟩ := h
    refine ⟨_, PSs.nox ((Evl.pss_cut (ps_for PassesOwn.never rfl (pi_seq (pv 1)) (pg_name (i := 3) sc_Wish_end.nd rfl (Or.inl rfl))
      (pss_one (ps_set (i := 2) sc_Wish_end.nd rfl (Or.inl rfl) (pe_do D_after TC.cl (hr.mono (by decide)) (pv 0) (pa_cons (pv 2) (pa_cons (pv 3) pa_nil))))))
    (pss_one (ps_ret (pv 2))))), ?_⟩
    refine ⟨fun σ H' => ∃ o, σ = [some v, some (.ref ta), some (.int (endW W.steps st tale)), o] ∧ Same H H', ?_, ?_⟩
    · refine ⟨_, rfl, ta, _, rfl, ht, fun J S Wk s0 => ?_⟩
      refine for_sq Wk (fun i σ H' => ∃ o, σ = [some v, some (.ref ta), some (.int (endW W.steps st (tale.take i))), o] ∧ Same H H') ⟨none, rfl, Same.refl _⟩ (fun i σ H' p => Wk.keep (fun o e => let ⟨_, _, s⟩ := p; s _ _ e) s0) ?_ ?_
      · rintro i σ H1 y ey ⟨o, rfl, s1⟩
        obtain ⟨d, ed, hd⟩ := hT.get ey
        obtain ⟨a, dx, ga, sa, jts, rfl, w0, w1⟩ := id hw
        refine ⟨_, rfl, a, dx, _, rfl, s1 _ _ w0, fl_no _ _ _ (by decide +kernel) (by decide +kernel) (by decide +kernel), _, rfl, _, rfl, .ref a, y, _, W, d, rfl, hw.same s1, hd.same s1, fun H2 s2 => ⟨some y, ?_, s1.trans s2⟩⟩
        rw [List.take_add_one, ed]
        show _ = [_, _, some (V.int (endW W.steps st (tale.take i ++ [d]))), _]
        rw [endW_snoc]; rfl
      · rintro σ H1 ⟨o, rfl, s1⟩
        exact ⟨o, by rw [hT.len, List.take_length], s1⟩
    rintro σ H1 ⟨o, rfl, s1⟩
    exact ⟨_, rfl, q H1 s1⟩
abbrev s_Wish_takes : Stmt := inClass (top 14) 5
theorem sc_Wish_takes : FnScope ["self", "tale"] ["self", "tale"] (defScope s_Wish_takes) := ⟨rfl, rfl, rfl, by decide +kernel, rfl, by decide +kernel, by decide +kernel⟩
def spTakes (K : PySem.W.Frag) (C : Addr) : Sp := fun vs H Q _ => ∃ (v : V) (ta : Addr) (W : Wd) (its : List V) (tale : List (List Str)), vs = [v, .ref ta] ∧ WA K C H v W ∧ SqX K H ta its ∧ All2 (TX K H) its tale ∧ ∀ H', Same H H' → Q (.bl (decide (endW W.steps 0 tale ∈ W.good))) H'
theorem ok_takes {f : Addr} {fd : FuncData} (F : Fun K "takes" "Wish.takes" s_Wish_takes f fd) (TC : Txt K mg C_Wish) (D_end1 : Ch P w K mg base C_Wish "end" ["self", "tale", "state"] [.int 0] 3 (spEnd K C_Wish)) : FnOk P w K mg base CX0 4 f fd ["self", "tale"] (spTakes K C_Wish) := by
  refine F.ok sc_Wish_takes (fun vs H Q E h => ?_) (fun cdv A outer s H vs Q E hr h => ?_)
  · obtain ⟨_, _, _, _, _, rfl, _⟩ := h
    rfl
  · obtain ⟨v, ta, W, its, tale, rfl, hw, ht, hT, q⟩ := h
    refine ⟨_, (pss_one (ps_ret (pe_cmpR op_in_seq (pe_do D_end1 TC.cl (hr.mono (by decide)) (pv 0) (pa_cons (pv 1) pa_nil)) (pe_fld (pv 0) rfl) rfl))), ?_⟩
    obtain ⟨a, dx, ga, sa, jts, rfl, w0, w1, w2, w3⟩ := id hw
    refine ⟨_, rfl, a, dx, _, rfl, w0, fl_no _ _ _ (by decide +kernel) (by decide +kernel) (by decide +kernel), _, rfl, .ref a, ta, 0, W, its, tale, rfl, hw, ht, hT, fun H1 s1 => ?_⟩
    exact ⟨_, rfl, a, C_Wish, dx, _, _, rfl, s1 _ _ w0, TC.cl, TC.nG, fl_good _ _ _, in_ints (.inr (tupFix (Fix.of s1) w1)) (q H1 s1)⟩
end
end Kd

namespace Kd
open PySem PySem.Spec PyProof.Rows L2 Hb St Sq Ow En
/-! ### wishes as they are kept -/
def mkW (n : Int) (gs : List Int) (ss : List Stp) : Wd := ⟨n, lotI gs, ss.map nrm⟩
structure OkW (W : Wd) : Prop where
  n1 : 1 ≤ W.n
  gd : lotI W.good = W.good
  gl : W.good.length < 64
  gok : ∀ g ∈ W.good, 0 ≤ g ∧ g < W.n
  sl : W.steps.length ≤ 1000
  sok : ∀ s ∈ W.steps, OkS W.n s
  nr : ∀ s ∈ W.steps, nrm s = s
theorem nrm_nrm (s : Stp) : nrm (nrm s) = nrm s := by
  unfold nrm
  rw [lotS_idem, lotS_idem]
theorem OkS.nrm {n : Int} {s : Stp} (h : OkS n s) : OkS n (nrm s) where
  b0 := h.b0
  b1 := h.b1
  e0 := h.e0
  e1 := h.e1
  nn := fun x hx => h.nn x (mem_lotS.mp hx)
  nb := fun x hx => h.nb x (mem_lotS.mp hx)
  ln := Nat.le_trans (len_lotS _) h.ln
  lb := Nat.le_trans (len_lotS _) h.lb
theorem ok_mkW {n : Int} {gs : List Int} {ss : List Stp} (n1 : 1 ≤ n) (gl : gs.length < 64) (gok : ∀ g ∈ gs, 0 ≤ g ∧ g < n) (sl : ss.length ≤ 1000) (sok : ∀ s ∈ ss, OkS n s) : OkW (mkW n gs ss) where
  n1 := n1
  gd := lotI_congr fun _ => mem_lotI
  gl := Nat.lt_of_le_of_lt (len_lotI gs) gl
  gok := fun g hg => gok g (mem_lotI.mp hg)
  sl := by show (ss.map Kd.nrm).length ≤ _; rw [List.length_map]; exact sl
  sok := fun s hs => by
    obtain ⟨t, ht, rfl⟩ := List.mem_map.mp hs
    exact (sok t ht).nrm
  nr := fun s hs => by
    obtain ⟨t, ht, rfl⟩ := List.mem_map.mp hs
    exact nrm_nrm t
def rings (x : Str) (t : Int) : Wd := mkW (t + 1) [t] ((List.range t.toNat).map fun (k : Nat) => ⟨k, [x], [], k + 1⟩)
def ahead (x y : Str) : Wd := mkW 3 [1] [⟨0, [y], [], 2⟩, ⟨0, [x], [], 1⟩]
def lastW (x : Str) : Wd := mkW 2 [1] [⟨0, [x], [], 1⟩, ⟨1, [], [x], 0⟩]
def deny (W : Wd) : Wd := mkW W.n (((List.range W.n.toNat).map fun (k : Nat) => (k : Int)).filter fun i => !decide (i ∈ W.good)) W.steps
def met (W : Wd) : Wd := mkW W.n W.good (W.steps.filter fun s => !decide (s.b ∈ W.good))
theorem rng_at {α : Type} {n i : Nat} {f : Nat → α} {y : α} (h : ((List.range n).map f)[i]? = some y) : y = f i ∧ i < n := by
  rw [List.getElem?_map] at h
  cases e : (List.range n)[i]? with
  | none => rw [e] at h; cases h
  | some k =>
    rw [e] at h
    obtain ⟨hi, hk⟩ := List.getElem?_eq_some_iff.mp e
    rw [List.getElem_range] at hk
    rw [List.length_range] at hi
    subst hk
    exact ⟨(Option.some.inj h).symm, hi⟩
section
variable {P : Program} {w : World} {K : PySem.W.Frag} {mg : Str → Option Value} {base : Heap}
/-! ### rung_bells -/
abbrev s_Wish_rung_bells : Stmt := inClass (top 14) 2
theorem sc_Wish_rung_bells : FnScope ["self", "names", "step"] ["self"] (defScope s_Wish_rung_bells) := ⟨rfl, rfl, rfl, by decide +kernel, rfl, by decide +kernel, by decide +kernel⟩
def spRung (K : PySem.W.Frag) (C : Addr) : Sp := fun vs H Q _ => ∃ (v : V) (W : Wd), vs = [v] ∧ WA K C H v W ∧ (namesOf W.steps).length ≤ 1000 ∧ ∀ p H', Same H H' → H' p = some (.tup ((lotS (namesOf W.steps)).map V.str)) → Q (.ref p) H'
theorem namesOf_take {ss : List Stp} {i : Nat} {d : Stp} (h : ss[i]? = some d) : namesOf (ss.take (i + 1)) = namesOf (ss.take i) ++ (d.need ++ d.bar) := by
  unfold namesOf
  rw [List.take_add_one, h, List.flatMap_append]
  simp
theorem namesOf_le {ss : List Stp} {i : Nat} : (namesOf (ss.take i)).length ≤ (namesOf ss).length := by
  have e : namesOf ss = namesOf (ss.take i) ++ namesOf (ss.drop i) := by
    unfold namesOf
    rw [← List.flatMap_append, List.take_append_drop]
  rw [e, List.length_append]; omega
theorem ok_rung {f : Addr} {fd : FuncData} (F : Fun K "rung_bells" "Wish.rung_bells" s_Wish_rung_bells f fd) (TC : Txt K mg C_Wish) (C_as_lot : Cl P w K mg base "as_lot" ["values"] [] 1 (spLot K)) (n_list : mg "list" = none) : FnOk P w K mg base CX0 2 f fd ["self"] (spRung K C_Wish) := by
  refine F.ok sc_Wish_rung_bells (fun vs H Q E h => ?_) (fun cdv A outer s H vs Q E hr h => ?_)
  · obtain ⟨_, _, rfl, _⟩ := h
    rfl
  · obtain ⟨v, W, rfl, hw, hl, q⟩ := h
    refine ⟨_, (pss_cons (ps_set (i := 1) sc_Wish_rung_bells.nd rfl (Or.inl rfl) (pe_lst pa_nil))
    (Evl.pss_cut (ps_for PassesOwn.never rfl (pi_seq (pe_fld (pv 0) rfl)) (pg_name (i := 2) sc_Wish_rung_bells.nd rfl (Or.inl rfl))
      (pss_one (ps_set (i := 1) sc_Wish_rung_bells.nd rfl (Or.inl rfl) (pe_op op_cat (pe_op op_cat (pv 1) (pe_callTy call_list_of (by rfl) n_list (by decide +kernel) (pa_cons (pe_ix ix_tup (pv 2) pe_int (fun _ _ => rfl)) pa_nil))) (pe_callTy call_list_of (by rfl) n_list (by decide +kernel) (pa_cons (pe_ix ix_tup (pv 2) pe_int (fun _ _ => rfl)) pa_nil))))))
    (pss_one (ps_ret (pe_use C_as_lot (hr.mono (by decide)) rfl (pa_cons (pv 1) pa_nil)))))), ?_⟩
    obtain ⟨a, dx, ga, sa, its, rfl, q0, q1, q2, q3⟩ := id hw
    refine ⟨Nat.zero_le _, fun l0 hl0 => ?_⟩
    have s0 := same_new hl0 (.lst [])
    refine ⟨fun σ H' => ∃ p o, σ = [some (.ref a), some (.ref p), o] ∧ Same H H' ∧ H' p = some (.lst ((namesOf W.steps).map V.str)), ?_, ?_⟩
    · refine ⟨_, rfl, a, C_Wish, dx, _, _, rfl, s0 _ _ q0, TC.cl, TC.nT, fl_steps _ _ _, sa, _, rfl, .inr (tupFix (Fix.of s0) q2), fun J S Wk st => ?_⟩
      refine for_sq Wk (fun i σ H' => ∃ p o, σ = [some (.ref a), some (.ref p), o] ∧ Same (upd H l0 (.lst [])) H' ∧ H' p = some (.lst ((namesOf (W.steps.take i)).map V.str))) ⟨l0, none, rfl, Same.refl _, upd_same⟩ (fun i σ H' p => Wk.keep (fun o e => let ⟨_, _, _, s, _⟩ := p; s _ _ e) st) ?_ ?_
      · rintro i σ H1 y ey ⟨p, o, rfl, s1, e1⟩
        obtain ⟨d, ed, hd⟩ := q3.get ey
        obtain ⟨ya, yn, yr, rfl, h0, ⟨na, rfl, h1, l1, m1⟩, ra, rfl, h2, l2, m2⟩ := hd.fix ((Fix.of s0).trans (Fix.of s1))
        have le1 := namesOf_le (ss := W.steps) (i := i)
        refine ⟨_, rfl, _, rfl, ya, _, _, .ref na, rfl, rfl, h0, rfl, na, _, rfl, .inr h1, fun p1 hp1 => ?_⟩
        have t1 := same_new hp1 (.lst (d.need.map V.str))
        refine ⟨p, p1, _, _, rfl, rfl, t1 _ _ e1, upd_same, by rw [List.length_map, List.length_map, sizeLine_eq]; omega, fun p2 hp2 => ?_⟩
        have t2 := same_new hp2 (.lst ((namesOf (W.steps.take i)).map V.str ++ d.need.map V.str))
        have e2 : upd (upd H1 p1 (.lst (d.need.map V.str))) p2 (.lst ((namesOf (W.steps.take i)).map V.str ++ d.need.map V.str)) p2 = _ := upd_same
        generalize upd (upd H1 p1 (.lst (d.need.map V.str))) p2 (.lst ((namesOf (W.steps.take i)).map V.str ++ d.need.map V.str)) = H2 at t2 e2 ⊢
        have s2 : Same H1 H2 := t1.trans t2
        refine ⟨_, rfl, ya, _, _, .ref ra, rfl, rfl, tupFix (Fix.of s2) h0, rfl, ra, _, rfl, .inr (tupFix (Fix.of s2) h2), fun p3 hp3 => ?_⟩
        have t3 := same_new hp3 (.lst (d.bar.map V.str))
        refine ⟨p2, p3, _, _, rfl, rfl, t3 _ _ e2, upd_same, by rw [List.length_append, List.length_map, List.length_map, List.length_map, sizeLine_eq]; omega, fun p4 hp4 => ?_⟩
        refine ⟨p4, some (.ref ya), rfl, ((s1.trans s2).trans t3).trans (same_new hp4 _), ?_⟩
        rw [upd_same, namesOf_take ed, List.map_append, List.map_append, List.append_assoc]
      · rintro σ H1 ⟨p, o, rfl, s1, e1⟩
        refine ⟨p, o, rfl, s0.trans s1, ?_⟩
        rw [q3.len, List.take_length] at e1
        exact e1
    rintro σ H1 ⟨p, o, rfl, s1, e1⟩
    exact ⟨_, rfl, p, rfl, .inl ⟨_, .inl (SqL.of e1), hl, fun r H2 s2 e2 => q r H2 (s1.trans s2) e2⟩⟩
/-! ### wish_rings -/
abbrev s_wish_rings : Stmt := top 19
theorem sc_wish_rings : FnScope ["bell", "times", "steps", "state"] ["bell", "times"] (defScope s_wish_rings) := ⟨rfl, rfl, rfl, by decide +kernel, rfl, by decide +kernel, by decide +kernel⟩
def spRings (K : PySem.W.Frag) (C : Addr) : Sp := fun vs H Q _ => ∃ (x : Str) (t : Int), vs = [.str x, .int t] ∧ IsNm x ∧ 1 ≤ t ∧ t ≤ 50 ∧ ∀ u H', Same H H' → WA K C H' u (rings x t) → Q u H'
theorem ok_rings_s {x : Str} {t : Int} (hx : IsNm x) (t1 : 1 ≤ t) (k : Nat) (hk : k < t.toNat) : OkS (t + 1) ⟨k, [x], [], k + 1⟩ where
  b0 := by show 0 ≤ (k : Int); omega
  b1 := by show (k : Int) < t + 1; omega
  e0 := by show 0 ≤ (k : Int) + 1; omega
  e1 := by show (k : Int) + 1 < t + 1; omega
  nn := fun y hy => by rw [List.mem_singleton.mp hy]; exact hx
  nb := fun y hy => by cases hy
  ln := by show 1 ≤ 1000; decide
  lb := Nat.zero_le _
theorem ok_rings {f : Addr} {fd : FuncData} (F : FunD K "wish_rings" "wish_rings" (defArgs s_wish_rings) (defBody s_wish_rings) (defScope s_wish_rings) [.int 1] [] f fd) (C_is_count : Cl P w K mg base "is_count" ["value"] [] 2 spIsCnt) (M_Wish : Cm P w K mg base "Wish" C_Wish ["self", "states", "good", "steps"] 5 (spInit K C_Wish)) (n_range : mg "range" = none) : FnOk P w K mg base CX0 7 f fd ["bell", "times"] (spRings K C_Wish) := by
  refine F.ok sc_wish_rings (fun vs H Q E h => ?_) (fun cdv A outer s H vs Q E hr h => ?_)
  · obtain ⟨_, _, rfl, _⟩ := h
    rfl
  · obtain ⟨x, t, rfl, hx, t1, t2, q⟩ := h
    refine ⟨_, PSs.nox ((Evl.pss_cut (ps_if (pt_not (pt_val (pe_use C_is_count (hr.mono (by decide)) rfl (pa_cons (pv 1) pa_nil)))) (pss_one (ps_never)) pss_nil)
    (Evl.pss_cut (ps_setLc (i := 2) (own := [("state", 3)]) (g := gName 3) (by rfl) sc_wish_rings.nd rfl rfl (sw_true rfl rfl rfl (by decide +kernel)) (pi_range1 (by rfl) n_range (pa_cons (pv 1) pa_nil)) (blkOk_by (N := ["bell", "times", "steps", "state"]) (sc := defScope s_wish_rings) (by decide +kernel)) (fun _ _ _ _ _ => pg_name (i := 3) sc_wish_rings.nd rfl (Or.inl rfl)) (fun _ _ _ _ _ => pts_nil) (fun _ _ _ _ _ => pe_tup (pa_cons (pv 3) (pa_cons (pe_tup (pa_cons (pv 0) pa_nil)) (pa_cons (pe_tup pa_nil) (pa_cons (pe_op op_add (pv 3) pe_int) pa_nil))))))
    (pss_one (ps_ret (pe_new M_Wish (hr.mono (by decide)) rfl (pa_cons (pe_op op_add (pv 1) pe_int) (pa_cons (pe_tup (pa_cons (pv 1) pa_nil)) (pa_cons (pv 2) pa_nil))))))))), ?_⟩
    refine ⟨fun σ H' => σ = [some (.str x), some (.int t), none, none] ∧ H' = H, ?_, ?_⟩
    · refine ⟨_, rfl, t, rfl, _, rfl, ?_⟩
      rw [decide_eq_true t1]
      exact iteF ⟨rfl, rfl⟩
    rintro σ H0 ⟨rfl, rfl⟩
    let ds : List Stp := (List.range t.toNat).map fun (k : Nat) => ⟨k, [x], [], k + 1⟩
    refine ⟨fun σ H' => ∃ D ys o, σ = [some (.str x), some (.int t), some (.ref D), o] ∧ Same H0 H' ∧ H' D = some (.lst ys) ∧ All2 (SP K H') ys ds, ?_, ?_⟩
    · refine ⟨_, rfl, t, rfl, by omega, by omega, fun D hD => ?_⟩
      refine lc_mf (ds := ds) (wk_range (a := D)) (fun _ => true) (fun H y d => SP K H y d) trivial hD (by simp [ds]) (fun i y d H ey ed s m => ?_) (fun H ys s e al => ?_)
      · obtain ⟨rfl, hi⟩ := rng_at ey
        obtain ⟨rfl, _⟩ := rng_at ed
        refine ⟨rfl, _, rfl, _, rfl, by show 1 ≤ sizeLine; decide, fun p1 h1 => ⟨Nat.zero_le _, fun p2 h2 => ⟨_, rfl, _, _, rfl, rfl, by show 4 ≤ sizeLine; decide, fun p3 h3 => ?_⟩⟩⟩
        have t1 := same_new h1 (.tup [V.str x])
        have t2 := same_new h2 (.tup [])
        have t3 := same_new h3 (.tup [.int (0 + (i : Nat)), .ref p1, .ref p2, .int (0 + (i : Nat) + 1)])
        refine mf_yes m hD (fun _ _ _ _ f h => SP.fix f h) ed (by simp [ds]; omega) ((t1.trans t2).trans t3) rfl ⟨p3, .ref p1, .ref p2, rfl, SqT.of ?_, ⟨p1, rfl, SqT.of (t3 _ _ (t2 _ _ upd_same)), by show 1 ≤ 1000; decide, fun y hy => by rw [List.mem_singleton.mp hy]; exact hx⟩, ⟨p2, rfl, SqT.of (t3 _ _ upd_same), Nat.zero_le _, fun y hy => by cases hy⟩⟩
        rw [upd_same]
        simp
      · rw [List.filter_eq_self.mpr fun _ _ => rfl] at al
        exact ⟨D, ys, _, rfl, s, e, al⟩
    rintro σ H1 ⟨D, ys, o, rfl, s1, e1, al⟩
    refine ⟨_, rfl, _, _, rfl, rfl, _, rfl, by show 1 ≤ sizeLine; decide, fun g hg => ⟨_, rfl, ?_⟩⟩
    have t3 := same_new hg (.tup [V.int t])
    refine new_wish (gs := [t]) (ss := ds) rfl (by omega) (SqX.tup upd_same) (by show 1 < 64; decide) (fun z hz => by rw [List.mem_singleton.mp hz]; omega) (SqX.lst (t3 _ _ e1)) (al.imp fun _ _ h => (h.fix (Fix.of t3)).si) (by simp [ds]; omega) (fun z hz => ?_) fun u H2 s2 hw => q _ _ ((s1.trans t3).trans s2) hw
    obtain ⟨k, hk, rfl⟩ := List.mem_map.mp hz
    exact ok_rings_s hx t1 k (List.mem_range.mp hk)
/-! ### wish_ahead, wish_last -/
theorem ok_one {n b e : Int} {x y : List Str} (h : 0 ≤ b ∧ b < n ∧ 0 ≤ e ∧ e < n) (hx : ∀ z ∈ x, IsNm z) (hy : ∀ z ∈ y, IsNm z) (lx : x.length ≤ 1000) (ly : y.length ≤ 1000) : OkS n ⟨b, x, y, e⟩ := ⟨h.1, h.2.1, h.2.2.1, h.2.2.2, hx, hy, lx, ly⟩
theorem nm_one {x : Str} (h : IsNm x) : ∀ z ∈ [x], IsNm z := fun z hz => by rw [List.mem_singleton.mp hz]; exact h
theorem nm_nil : ∀ z ∈ ([] : List Str), IsNm z := fun z hz => by cases hz
theorem two_ok {s t : Stp} {n : Int} (h : OkS n s) (k : OkS n t) : ∀ z ∈ [s, t], OkS n z := fun z hz => by
  rcases List.mem_cons.mp hz with rfl | hz
  · exact h
  · rw [List.mem_singleton.mp hz]; exact k
theorem ts_new {H : Hp} {p : Addr} {xs : List Str} (e : H p = some (.tup (xs.map V.str))) (l : xs.length ≤ 1000) (m : ∀ x ∈ xs, IsNm x) : TS_ K H (.ref p) xs := ⟨p, rfl, SqT.of e, l, m⟩
abbrev s_wish_ahead : Stmt := top 20
theorem sc_wish_ahead : FnScope ["one", "other"] ["one", "other"] (defScope s_wish_ahead) := ⟨rfl, rfl, rfl, by decide +kernel, rfl, by decide +kernel, by decide +kernel⟩
def spAhead (K : PySem.W.Frag) (C : Addr) : Sp := fun vs H Q _ => ∃ x y : Str, vs = [.str x, .str y] ∧ IsNm x ∧ IsNm y ∧ ∀ u H', Same H H' → WA K C H' u (ahead x y) → Q u H'
theorem ok_ahead {f : Addr} {fd : FuncData} (F : Fun K "wish_ahead" "wish_ahead" s_wish_ahead f fd) (M_Wish : Cm P w K mg base "Wish" C_Wish ["self", "states", "good", "steps"] 5 (spInit K C_Wish)) : FnOk P w K mg base CX0 7 f fd ["one", "other"] (spAhead K C_Wish) := by
  refine F.ok sc_wish_ahead (fun vs H Q E h => ?_) (fun cdv A outer s H vs Q E hr h => ?_)
  · obtain ⟨_, _, rfl, _⟩ := h
    rfl
  · obtain ⟨x, y, rfl, hx, hy, q⟩ := h
    refine ⟨_, (pss_one (ps_ret (pe_new M_Wish (hr.mono (by decide)) rfl (pa_cons pe_int (pa_cons (pe_tup (pa_cons pe_int pa_nil)) (pa_cons (pe_tup (pa_cons (pe_tup (pa_cons pe_int (pa_cons (pe_tup (pa_cons (pv 1) pa_nil)) (pa_cons (pe_tup pa_nil) (pa_cons pe_int pa_nil))))) (pa_cons (pe_tup (pa_cons pe_int (pa_cons (pe_tup (pa_cons (pv 0) pa_nil)) (pa_cons (pe_tup pa_nil) (pa_cons pe_int pa_nil))))) pa_nil))) pa_nil)))))), ?_⟩
    refine ⟨by show 1 ≤ sizeLine; decide, fun g hg => ?_⟩
    have s1 := same_new hg (.tup [V.int 1])
    have e1 : upd H g (.tup [V.int 1]) g = some (.tup [V.int 1]) := upd_same
    generalize upd H g (.tup [V.int 1]) = H1 at s1 e1 ⊢
    refine ⟨_, rfl, by show 1 ≤ sizeLine; decide, fun p1 h1 => ⟨Nat.zero_le _, fun p2 h2 => ⟨by show 4 ≤ sizeLine; decide, fun p3 h3 => ?_⟩⟩⟩
    have t1 := same_new h1 (.tup [V.str y])
    have t2 := same_new h2 (.tup [])
    have t3 := same_new h3 (.tup [V.int 0, .ref p1, .ref p2, .int 2])
    have w1 : SP K (upd (upd (upd H1 p1 (.tup [V.str y])) p2 (.tup [])) p3 (.tup [V.int 0, .ref p1, .ref p2, .int 2])) (.ref p3) ⟨0, [y], [], 2⟩ :=
      ⟨p3, .ref p1, .ref p2, rfl, SqT.of upd_same, ts_new (xs := [y]) (t3 _ _ (t2 _ _ upd_same)) (by show 1 ≤ 1000; decide) (nm_one hy), ts_new (xs := []) (t3 _ _ upd_same) (Nat.zero_le _) nm_nil⟩
    have s2 : Same H1 (upd (upd (upd H1 p1 (.tup [V.str y])) p2 (.tup [])) p3 (.tup [V.int 0, .ref p1, .ref p2, .int 2])) := (t1.trans t2).trans t3
    generalize upd (upd (upd H1 p1 (.tup [V.str y])) p2 (.tup [])) p3 (.tup [V.int 0, .ref p1, .ref p2, .int 2]) = H2 at w1 s2 ⊢
    refine ⟨_, rfl, by show 1 ≤ sizeLine; decide, fun r1 k1 => ⟨Nat.zero_le _, fun r2 k2 => ⟨by show 4 ≤ sizeLine; decide, fun r3 k3 => ?_⟩⟩⟩
    have u1 := same_new k1 (.tup [V.str x])
    have u2 := same_new k2 (.tup [])
    have u3 := same_new k3 (.tup [V.int 0, .ref r1, .ref r2, .int 1])
    have w2 : SP K (upd (upd (upd H2 r1 (.tup [V.str x])) r2 (.tup [])) r3 (.tup [V.int 0, .ref r1, .ref r2, .int 1])) (.ref r3) ⟨0, [x], [], 1⟩ :=
      ⟨r3, .ref r1, .ref r2, rfl, SqT.of upd_same, ts_new (xs := [x]) (u3 _ _ (u2 _ _ upd_same)) (by show 1 ≤ 1000; decide) (nm_one hx), ts_new (xs := []) (u3 _ _ upd_same) (Nat.zero_le _) nm_nil⟩
    have s3 : Same H2 (upd (upd (upd H2 r1 (.tup [V.str x])) r2 (.tup [])) r3 (.tup [V.int 0, .ref r1, .ref r2, .int 1])) := (u1.trans u2).trans u3
    generalize upd (upd (upd H2 r1 (.tup [V.str x])) r2 (.tup [])) r3 (.tup [V.int 0, .ref r1, .ref r2, .int 1]) = H3 at w2 s3 ⊢
    refine ⟨by show 2 ≤ sizeLine; decide, fun st hst => ?_⟩
    have s4 := same_new hst (.tup [.ref p3, .ref r3])
    have s14 := (s2.trans s3).trans s4
    refine new_wish (gs := [1]) (ss := [⟨0, [y], [], 2⟩, ⟨0, [x], [], 1⟩]) rfl (by decide) (SqX.tup (s14 _ _ e1)) (by show 1 < 64; decide) (fun z hz => by rw [List.mem_singleton.mp hz]; decide) (SqX.tup upd_same)
      (.cons ((w1.fix (Fix.of (s3.trans s4))).si) (.cons ((w2.fix (Fix.of s4)).si) .nil)) (by show 2 ≤ 1000; decide) (two_ok (ok_one (by decide) (nm_one hy) nm_nil (by show 1 ≤ 1000; decide) (Nat.zero_le _)) (ok_one (by decide) (nm_one hx) nm_nil (by show 1 ≤ 1000; decide) (Nat.zero_le _))) fun u H2 s5 hw => q _ _ ((s1.trans s14).trans s5) hw
abbrev s_wish_last : Stmt := top 21
theorem sc_wish_last : FnScope ["bell"] ["bell"] (defScope s_wish_last) := ⟨rfl, rfl, rfl, by decide +kernel, rfl, by decide +kernel, by decide +kernel⟩
def spLast (K : PySem.W.Frag) (C : Addr) : Sp := fun vs H Q _ => ∃ x : Str, vs = [.str x] ∧ IsNm x ∧ ∀ u H', Same H H' → WA K C H' u (lastW x) → Q u H'
theorem ok_last {f : Addr} {fd : FuncData} (F : Fun K "wish_last" "wish_last" s_wish_last f fd) (M_Wish : Cm P w K mg base "Wish" C_Wish ["self", "states", "good", "steps"] 5 (spInit K C_Wish)) : FnOk P w K mg base CX0 7 f fd ["bell"] (spLast K C_Wish) := by
  refine F.ok sc_wish_last (fun vs H Q E h => ?_) (fun cdv A outer s H vs Q E hr h => ?_)
  · obtain ⟨_, rfl, _⟩ := h
    rfl
  · obtain ⟨x, rfl, hx, q⟩ := h
    refine ⟨_, (pss_one (ps_ret (pe_new M_Wish (hr.mono (by decide)) rfl (pa_cons pe_int (pa_cons (pe_tup (pa_cons pe_int pa_nil)) (pa_cons (pe_tup (pa_cons (pe_tup (pa_cons pe_int (pa_cons (pe_tup (pa_cons (pv 0) pa_nil)) (pa_cons (pe_tup pa_nil) (pa_cons pe_int pa_nil))))) (pa_cons (pe_tup (pa_cons pe_int (pa_cons (pe_tup pa_nil) (pa_cons (pe_tup (pa_cons (pv 0) pa_nil)) (pa_cons pe_int pa_nil))))) pa_nil))) pa_nil)))))), ?_⟩
    refine ⟨by show 1 ≤ sizeLine; decide, fun g hg => ?_⟩
    have s1 := same_new hg (.tup [V.int 1])
    have e1 : upd H g (.tup [V.int 1]) g = some (.tup [V.int 1]) := upd_same
    generalize upd H g (.tup [V.int 1]) = H1 at s1 e1 ⊢
    refine ⟨_, rfl, by show 1 ≤ sizeLine; decide, fun p1 h1 => ⟨Nat.zero_le _, fun p2 h2 => ⟨by show 4 ≤ sizeLine; decide, fun p3 h3 => ?_⟩⟩⟩
    have t1 := same_new h1 (.tup [V.str x])
    have t2 := same_new h2 (.tup [])
    have t3 := same_new h3 (.tup [V.int 0, .ref p1, .ref p2, .int 1])
    have w1 : SP K (upd (upd (upd H1 p1 (.tup [V.str x])) p2 (.tup [])) p3 (.tup [V.int 0, .ref p1, .ref p2, .int 1])) (.ref p3) ⟨0, [x], [], 1⟩ :=
      ⟨p3, .ref p1, .ref p2, rfl, SqT.of upd_same, ts_new (xs := [x]) (t3 _ _ (t2 _ _ upd_same)) (by show 1 ≤ 1000; decide) (nm_one hx), ts_new (xs := []) (t3 _ _ upd_same) (Nat.zero_le _) nm_nil⟩
    have s2 : Same H1 (upd (upd (upd H1 p1 (.tup [V.str x])) p2 (.tup [])) p3 (.tup [V.int 0, .ref p1, .ref p2, .int 1])) := (t1.trans t2).trans t3
    generalize upd (upd (upd H1 p1 (.tup [V.str x])) p2 (.tup [])) p3 (.tup [V.int 0, .ref p1, .ref p2, .int 1]) = H2 at w1 s2 ⊢
    refine ⟨Nat.zero_le _, fun r1 k1 => ⟨_, rfl, by show 1 ≤ sizeLine; decide, fun r2 k2 => ⟨by show 4 ≤ sizeLine; decide, fun r3 k3 => ?_⟩⟩⟩
    have u1 := same_new k1 (.tup [])
    have u2 := same_new k2 (.tup [V.str x])
    have u3 := same_new k3 (.tup [V.int 1, .ref r1, .ref r2, .int 0])
    have w2 : SP K (upd (upd (upd H2 r1 (.tup [])) r2 (.tup [V.str x])) r3 (.tup [V.int 1, .ref r1, .ref r2, .int 0])) (.ref r3) ⟨1, [], [x], 0⟩ :=
      ⟨r3, .ref r1, .ref r2, rfl, SqT.of upd_same, ts_new (xs := []) (u3 _ _ (u2 _ _ upd_same)) (Nat.zero_le _) nm_nil, ts_new (xs := [x]) (u3 _ _ upd_same) (by show 1 ≤ 1000; decide) (nm_one hx)⟩
    have s3 : Same H2 (upd (upd (upd H2 r1 (.tup [])) r2 (.tup [V.str x])) r3 (.tup [V.int 1, .ref r1, .ref r2, .int 0])) := (u1.trans u2).trans u3
    generalize upd (upd (upd H2 r1 (.tup [])) r2 (.tup [V.str x])) r3 (.tup [V.int 1, .ref r1, .ref r2, .int 0]) = H3 at w2 s3 ⊢
    refine ⟨by show 2 ≤ sizeLine; decide, fun st hst => ?_⟩
    have s4 := same_new hst (.tup [.ref p3, .ref r3])
    have s14 := (s2.trans s3).trans s4
    refine new_wish (gs := [1]) (ss := [⟨0, [x], [], 1⟩, ⟨1, [], [x], 0⟩]) rfl (by decide) (SqX.tup (s14 _ _ e1)) (by show 1 < 64; decide) (fun z hz => by rw [List.mem_singleton.mp hz]; decide) (SqX.tup upd_same)
      (.cons ((w1.fix (Fix.of (s3.trans s4))).si) (.cons ((w2.fix (Fix.of s4)).si) .nil)) (by show 2 ≤ 1000; decide) (two_ok (ok_one (by decide) (nm_one hx) nm_nil (by show 1 ≤ 1000; decide) (Nat.zero_le _)) (ok_one (by decide) nm_nil (nm_one hx) (Nat.zero_le _) (by show 1 ≤ 1000; decide))) fun u H2 s5 hw => q _ _ ((s1.trans s14).trans s5) hw
/-! ### wish_denied, wish_met -/
abbrev s_wish_denied : Stmt := top 22
theorem sc_wish_denied : FnScope ["wish", "good", "state"] ["wish"] (defScope s_wish_denied) := ⟨rfl, rfl, rfl, by decide +kernel, rfl, by decide +kernel, by decide +kernel⟩
def spDenied (K : PySem.W.Frag) (C : Addr) : Sp := fun vs H Q _ => ∃ (v : V) (W : Wd), vs = [v] ∧ WA K C H v W ∧ OkW W ∧ W.n < 64 ∧ ∀ u H', Same H H' → WA K C H' u (deny W) → Q u H'
theorem ok_denied {f : Addr} {fd : FuncData} (F : Fun K "wish_denied" "wish_denied" s_wish_denied f fd) (TC : Txt K mg C_Wish) (M_Wish : Cm P w K mg base "Wish" C_Wish ["self", "states", "good", "steps"] 5 (spInit K C_Wish)) (n_range : mg "range" = none) : FnOk P w K mg base CX0 7 f fd ["wish"] (spDenied K C_Wish) := by
  refine F.ok sc_wish_denied (fun vs H Q E h => ?_) (fun cdv A outer s H vs Q E hr h => ?_)
  · obtain ⟨_, _, rfl, _⟩ := h
    rfl
  · obtain ⟨v, W, rfl, hw, ok, n64, q⟩ := h
    refine ⟨_, (Evl.pss_cut (ps_setLc (i := 1) (own := [("state", 2)]) (g := gName 2) (by rfl) sc_wish_denied.nd rfl rfl (sw_true rfl rfl rfl (by decide +kernel)) (pi_range1 (by rfl) n_range (pa_cons (pe_fld (pv 0) rfl) pa_nil)) (blkOk_by (N := ["wish", "good", "state"]) (sc := defScope s_wish_denied) (by decide +kernel)) (fun _ _ _ _ _ => pg_name (i := 2) sc_wish_denied.nd rfl (Or.inl rfl)) (fun _ _ _ _ _ => pts_one (pt_cmpR (r := rIn K true) op_notIn_seq (pv 2) (pe_fldK K (pv 0) rfl) rfl)) (fun _ _ _ _ _ => pv 2))
    (pss_one (ps_ret (pe_new M_Wish (hr.mono (by decide)) rfl (pa_cons (pe_fld (pv 0) rfl) (pa_cons (pv 1) (pa_cons (pe_fld (pv 0) rfl) pa_nil))))))), ?_⟩
    obtain ⟨a, dx, ga, sa, its, rfl, q0, q1, q2, q3⟩ := id hw
    let ds : List Int := (List.range W.n.toNat).map fun (k : Nat) => (k : Int)
    refine ⟨fun σ H' => ∃ D o, σ = [some (.ref a), some (.ref D), o] ∧ Same H H' ∧ H' D = some (.lst ((ds.filter fun i => !decide (i ∈ W.good)).map V.int)), ?_, ?_⟩
    · have n1 := ok.n1
      refine ⟨_, rfl, a, C_Wish, dx, _, _, rfl, q0, TC.cl, TC.nS, fl_states _ _ _, W.n, rfl, by omega, by omega, fun D hD => ?_⟩
      refine lc_mf (ds := ds) (wk_range (a := D)) (fun i => !decide (i ∈ W.good)) (fun _ y d => y = .int d) trivial hD (by simp [ds]) (fun i y d H' ey ed s m => ?_) (fun H' ys s e al => ?_)
      · obtain ⟨rfl, hi⟩ := rng_at ey
        obtain ⟨rfl, _⟩ := rng_at ed
        refine ⟨rfl, _, rfl, _, rfl, a, C_Wish, dx, _, _, rfl, s _ _ q0, TC.cl, TC.nG, fl_good _ _ _, nin_ints (.inr (tupFix (Fix.of s) q1)) ⟨_, rfl, ?_⟩⟩
        have e0 : ((0 : Int) + (i : Nat)) = (i : Int) := by omega
        rw [e0]
        cases c : !decide ((i : Int) ∈ W.good) with
        | true => exact iteT ⟨_, rfl, mf_yes m hD (fun _ _ _ _ _ h => h) ed (by simp [ds]; omega) (Same.refl _) c rfl⟩
        | false => exact iteF (mf_no m (fun _ _ _ _ _ h => h) ed (Same.refl _) c)
      · refine ⟨D, _, rfl, s, ?_⟩
        rw [e, al.map_eq (f := V.int) fun _ _ h => h]
    rintro σ H1 ⟨D, o, rfl, s1, e1⟩
    have q0' := s1 _ _ q0
    refine ⟨_, rfl, a, C_Wish, dx, _, _, rfl, q0', TC.cl, TC.nS, fl_states _ _ _, _, rfl, _, rfl, a, C_Wish, dx, _, _, rfl, q0', TC.cl, TC.nT, fl_steps _ _ _, ?_⟩
    refine new_wish (gs := ds.filter fun i => !decide (i ∈ W.good)) (ss := W.steps) rfl ok.n1 (SqX.lst e1) ?_ (fun g hg => ?_) (.inr (tupFix (Fix.of s1) q2)) (q3.imp fun _ _ h => (h.fix (Fix.of s1)).si) ok.sl ok.sok fun u H2 s2 hw2 => q _ _ (s1.trans s2) hw2
    · refine Nat.lt_of_le_of_lt (List.length_filter_le _ _) ?_
      have n1 := ok.n1
      simp [ds]; omega
    · obtain ⟨k, hk, rfl⟩ := List.mem_map.mp (List.mem_filter.mp hg).1
      have := List.mem_range.mp hk
      omega
abbrev s_wish_met : Stmt := top 23
theorem sc_wish_met : FnScope ["wish", "steps", "step"] ["wish"] (defScope s_wish_met) := ⟨rfl, rfl, rfl, by decide +kernel, rfl, by decide +kernel, by decide +kernel⟩
def spMet (K : PySem.W.Frag) (C : Addr) : Sp := fun vs H Q _ => ∃ (v : V) (W : Wd), vs = [v] ∧ WA K C H v W ∧ OkW W ∧ ∀ u H', Same H H' → WA K C H' u (met W) → Q u H'
theorem ok_met {f : Addr} {fd : FuncData} (F : Fun K "wish_met" "wish_met" s_wish_met f fd) (TC : Txt K mg C_Wish) (M_Wish : Cm P w K mg base "Wish" C_Wish ["self", "states", "good", "steps"] 5 (spInit K C_Wish)) : FnOk P w K mg base CX0 7 f fd ["wish"] (spMet K C_Wish) := by
  refine F.ok sc_wish_met (fun vs H Q E h => ?_) (fun cdv A outer s H vs Q E hr h => ?_)
  · obtain ⟨_, _, rfl, _⟩ := h
    rfl
  · obtain ⟨v, W, rfl, hw, ok, q⟩ := h
    refine ⟨_, (Evl.pss_cut (ps_setLc (i := 1) (own := [("step", 2)]) (g := gName 2) (by rfl) sc_wish_met.nd rfl rfl (sw_true rfl rfl rfl (by decide +kernel)) (pi_seq (pe_fld (pv 0) rfl)) (blkOk_by (N := ["wish", "steps", "step"]) (sc := defScope s_wish_met) (by decide +kernel)) (fun _ _ _ _ _ => pg_name (i := 2) sc_wish_met.nd rfl (Or.inl rfl)) (fun _ _ _ _ _ => pts_one (pt_cmpR (r := rIn K true) op_notIn_seq (pe_ix (r := rIxT K) ix_tup (pv 2) pe_int (fun _ _ => rfl)) (pe_fldK K (pv 0) rfl) rfl)) (fun _ _ _ _ _ => pv 2))
    (pss_one (ps_ret (pe_new M_Wish (hr.mono (by decide)) rfl (pa_cons (pe_fld (pv 0) rfl) (pa_cons (pe_fld (pv 0) rfl) (pa_cons (pv 1) pa_nil))))))), ?_⟩
    obtain ⟨a, dx, ga, sa, its, rfl, q0, q1, q2, q3⟩ := id hw
    refine ⟨fun σ H' => ∃ D ys o, σ = [some (.ref a), some (.ref D), o] ∧ Same H H' ∧ H' D = some (.lst ys) ∧ All2 (SP K H') ys (W.steps.filter fun s => !decide (s.b ∈ W.good)), ?_, ?_⟩
    · refine ⟨_, rfl, a, C_Wish, dx, _, _, rfl, q0, TC.cl, TC.nT, fl_steps _ _ _, sa, _, rfl, .inr q2, fun J S Wk s0 D hD => ?_⟩
      refine lc_mf (ds := W.steps) Wk (fun s => !decide (s.b ∈ W.good)) (fun H y d => SP K H y d) s0 hD q3.len (fun i y d H' ey ed s m => ?_) (fun H' ys s e al => ⟨D, ys, _, rfl, s, e, al⟩)
      obtain ⟨d', ed', hd⟩ := q3.get ey
      obtain rfl : d' = d := Option.some.inj (ed'.symm.trans ed)
      have hd2 := hd.fix (Fix.of s)
      obtain ⟨ya, yn, yr, rfl, h0, h1, h2⟩ := id hd2
      refine ⟨rfl, _, rfl, ya, _, _, _, rfl, rfl, h0, rfl, _, rfl, a, C_Wish, dx, _, _, rfl, s _ _ q0, TC.cl, TC.nG, fl_good _ _ _, nin_ints (.inr (tupFix (Fix.of s) q1)) ⟨_, rfl, ?_⟩⟩
      cases c : !decide (d'.b ∈ W.good) with
      | true => exact iteT ⟨_, rfl, mf_yes m hD (fun _ _ _ _ f h => SP.fix f h) ed (by have := ok.sl; omega) (Same.refl _) c hd2⟩
      | false => exact iteF (mf_no m (fun _ _ _ _ f h => SP.fix f h) ed (Same.refl _) c)
    rintro σ H1 ⟨D, ys, o, rfl, s1, e1, al⟩
    have q0' := s1 _ _ q0
    refine ⟨_, rfl, a, C_Wish, dx, _, _, rfl, q0', TC.cl, TC.nS, fl_states _ _ _, _, rfl, a, C_Wish, dx, _, _, rfl, q0', TC.cl, TC.nG, fl_good _ _ _, _, rfl, ?_⟩
    exact new_wish (gs := W.good) (ss := W.steps.filter fun s => !decide (s.b ∈ W.good)) rfl ok.n1 (.inr (tupFix (Fix.of s1) q1)) ok.gl ok.gok (SqX.lst e1) (al.imp fun _ _ h => h.si) (Nat.le_trans (List.length_filter_le _ _) ok.sl) (fun s hs => ok.sok s (List.mem_filter.mp hs).1) fun u H2 s2 hw2 => q _ _ (s1.trans s2) hw2
end
end Kd

namespace Kd
open PySem PySem.Spec PyProof.Rows L2 Hb St Sq Ow En
/-! ### moves of pairs -/
structure Mv where
  need : List Str
  bar : List Str
  e : Int
structure PMv where
  need : List Str
  bar : List Str
  e : Int × Int
def mvs (ss : List Stp) (s : Int) : List Mv := ((ss.filter fun t => decide (t.b = s)).map fun t => ⟨t.need, t.bar, t.e⟩) ++ [⟨[], [], s⟩]
def hitN (need bar lot : List Str) : Bool := need.all (fun x => decide (x ∈ lot)) && bar.all (fun x => !decide (x ∈ lot))
def comb (a b : Mv) : PMv := ⟨lotS (a.need ++ b.need), lotS (a.bar ++ b.bar), (a.e, b.e)⟩
def hidden (m : PMv) (ms : List PMv) : Bool := ms.any fun k => k.need.all (fun x => decide (x ∈ m.need)) && k.bar.all (fun x => decide (x ∈ m.bar))
def pstep (acc : List PMv) (m : PMv) : List PMv := if (m.bar.all (fun x => !decide (x ∈ m.need)) && !hidden m acc) = true then acc ++ [m] else acc
def combs (l1 l2 : List Mv) : List PMv := l1.flatMap fun a => l2.map fun b => comb a b
def pmoves (W U : Wd) (p q : Int) : List PMv := (combs (mvs W.steps p) (mvs U.steps q)).foldl pstep []
abbrev mh (lot : List Str) (m : PMv) : Bool := hitN m.need m.bar lot
theorem all_in {xs ys : List Str} : (xs.all fun x => decide (x ∈ ys)) = true ↔ ∀ x ∈ xs, x ∈ ys := by simp [List.all_eq_true]
theorem all_out {xs ys : List Str} : (xs.all fun x => !decide (x ∈ ys)) = true ↔ ∀ x ∈ xs, x ∉ ys := by simp [List.all_eq_true]
theorem hitN_iff {n b lot : List Str} : hitN n b lot = true ↔ (∀ x ∈ n, x ∈ lot) ∧ ∀ x ∈ b, x ∉ lot := by
  unfold hitN
  rw [Bool.and_eq_true, all_in, all_out]
theorem hitN_congr {n b n' b' lot : List Str} (h1 : ∀ x, x ∈ n ↔ x ∈ n') (h2 : ∀ x, x ∈ b ↔ x ∈ b') : hitN n b lot = hitN n' b' lot := by
  rw [Bool.eq_iff_iff, hitN_iff, hitN_iff]
  exact ⟨fun ⟨a, c⟩ => ⟨fun x hx => a x ((h1 x).mpr hx), fun x hx => c x ((h2 x).mpr hx)⟩, fun ⟨a, c⟩ => ⟨fun x hx => a x ((h1 x).mp hx), fun x hx => c x ((h2 x).mp hx)⟩⟩
theorem comb_hit (a b : Mv) (lot : List Str) : mh lot (comb a b) = (hitN a.need a.bar lot && hitN b.need b.bar lot) := by
  rw [Bool.eq_iff_iff, Bool.and_eq_true, hitN_iff, hitN_iff, hitN_iff]
  show ((∀ x ∈ lotS (a.need ++ b.need), x ∈ lot) ∧ ∀ x ∈ lotS (a.bar ++ b.bar), x ∉ lot) ↔ _
  constructor
  · rintro ⟨h1, h2⟩
    exact ⟨⟨fun x hx => h1 x (mem_lotS.mpr (List.mem_append_left _ hx)), fun x hx => h2 x (mem_lotS.mpr (List.mem_append_left _ hx))⟩, fun x hx => h1 x (mem_lotS.mpr (List.mem_append_right _ hx)), fun x hx => h2 x (mem_lotS.mpr (List.mem_append_right _ hx))⟩
  · rintro ⟨⟨h1, h2⟩, h3, h4⟩
    exact ⟨fun x hx => (List.mem_append.mp (mem_lotS.mp hx)).elim (h1 x) (h3 x), fun x hx => (List.mem_append.mp (mem_lotS.mp hx)).elim (h2 x) (h4 x)⟩
theorem find_snoc {α : Type} (p : α → Bool) (l : List α) (c : α) : (l ++ [c]).find? p = (l.find? p).or (if p c = true then some c else none) := by
  rw [List.find?_append]
  congr 1
  rw [List.find?_cons]
  cases p c <;> simp
/-- what is left out is never the first to match -/
theorem find_pm (lot : List Str) : ∀ L : List PMv, (L.foldl pstep []).find? (mh lot) = L.find? (mh lot) := by
  intro L
  have main : ∀ (n : Nat) (L : List PMv), L.length = n → (L.foldl pstep []).find? (mh lot) = L.find? (mh lot) := by
    intro n
    induction n with
    | zero => intro L h; rw [List.length_eq_zero_iff.mp h]; rfl
    | succ n ih =>
      intro L h
      have ne : L ≠ [] := fun z => by rw [z] at h; cases h
      obtain ⟨L', c, rfl⟩ : ∃ L' c, L = L' ++ [c] := ⟨L.dropLast, L.getLast ne, (List.dropLast_concat_getLast ne).symm⟩
      have hl : L'.length = n := by simpa using h
      have i := ih L' hl
      rw [List.foldl_append]
      show (pstep (L'.foldl pstep []) c).find? (mh lot) = _
      rw [find_snoc]
      generalize L'.foldl pstep [] = acc at i ⊢
      unfold pstep
      split
      · rw [find_snoc, i]
      · rename_i no
        rw [i]
        cases e : L'.find? (mh lot) with
        | some k => rfl
        | none =>
          have nc : ¬ mh lot c = true := fun hc => by
            obtain ⟨h1, h2⟩ := hitN_iff.mp hc
            apply no
            rw [Bool.and_eq_true]
            refine ⟨all_out.mpr fun x hx z => h2 x hx (h1 x z), ?_⟩
            cases hh : hidden c acc with
            | false => rfl
            | true =>
              obtain ⟨k, hk, q⟩ := List.any_eq_true.mp hh
              obtain ⟨q1, q2⟩ := Bool.and_eq_true_iff.mp q
              rw [e] at i
              have := List.find?_eq_none.mp i k hk
              exact absurd (hitN_iff.mpr ⟨fun x hx => h1 x (all_in.mp q1 x hx), fun x hx => h2 x (all_in.mp q2 x hx)⟩) this
          rw [if_neg nc]; rfl
  exact main _ L rfl
abbrev mh1 (lot : List Str) (m : Mv) : Bool := hitN m.need m.bar lot
theorem find_combs (lot : List Str) {l2 : List Mv} {b : Mv} (h2 : l2.find? (mh1 lot) = some b) : ∀ {l1 : List Mv} {a : Mv}, l1.find? (mh1 lot) = some a → (combs l1 l2).find? (mh lot) = some (comb a b)
  | [], a, h => by cases h
  | x :: l1, a, h => by
    show ((l2.map fun b => comb x b) ++ combs l1 l2).find? (mh lot) = _
    rw [List.find?_append, List.find?_map]
    rw [List.find?_cons] at h
    cases hx : mh1 lot x with
    | true =>
      rw [hx] at h
      cases h
      have e : (l2.find? (mh lot ∘ fun b => comb x b)) = some b := by
        rw [← h2]
        congr 1
        funext y
        show mh lot (comb x y) = mh1 lot y
        rw [comb_hit]
        show (mh1 lot x && mh1 lot y) = _
        rw [hx]; rfl
      rw [e]; rfl
    | false =>
      rw [hx] at h
      have e : (l2.find? (mh lot ∘ fun b => comb x b)) = none := by
        rw [List.find?_eq_none]
        intro y _ z
        have z2 : mh lot (comb x y) = true := z
        rw [comb_hit] at z2
        have : (mh1 lot x && mh1 lot y) = true := z2
        rw [hx] at this; cases this
      rw [e]
      exact find_combs lot h2 h
theorem find_mvs (lot : List Str) (s : Int) : ∀ ss : List Stp, ∃ m : Mv, (mvs ss s).find? (mh1 lot) = some m ∧ m.e = aft ss s lot
  | [] => ⟨⟨[], [], s⟩, rfl, rfl⟩
  | t :: r => by
    obtain ⟨m, h1, h2⟩ := find_mvs lot s r
    unfold mvs
    rw [List.filter_cons]
    show ∃ m : Mv, _ ∧ m.e = (if hit t s lot = true then t.e else aft r s lot)
    by_cases c : t.b = s
    · rw [if_pos (decide_eq_true c), List.map_cons, List.cons_append, List.find?_cons]
      have eh : hit t s lot = hitN t.need t.bar lot := by unfold hit hitN; rw [decide_eq_true c]; rfl
      cases hh : mh1 lot ⟨t.need, t.bar, t.e⟩ with
      | true =>
        refine ⟨_, rfl, ?_⟩
        rw [eh, if_pos hh]
      | false =>
        refine ⟨m, h1, ?_⟩
        rw [eh, if_neg (by have : hitN t.need t.bar lot = false := hh; rw [this]; exact Bool.false_ne_true)]
        exact h2
    · rw [if_neg (by rw [decide_eq_false c]; exact Bool.false_ne_true)]
      refine ⟨m, h1, ?_⟩
      rw [if_neg (by unfold hit; rw [decide_eq_false c]; exact Bool.false_ne_true)]
      exact h2
theorem find_pmoves (W U : Wd) (p q : Int) (lot : List Str) : ∃ m : PMv, (pmoves W U p q).find? (mh lot) = some m ∧ m.e = (aft W.steps p lot, aft U.steps q lot) := by
  obtain ⟨a, a1, a2⟩ := find_mvs lot p W.steps
  obtain ⟨b, b1, b2⟩ := find_mvs lot q U.steps
  refine ⟨comb a b, ?_, ?_⟩
  · unfold pmoves
    rw [find_pm]
    exact find_combs lot b1 a1
  · show (a.e, b.e) = _
    rw [a2, b2]
/-! ### numbers of pairs -/
def idx : List (Int × Int) → Int × Int → Nat
  | [], _ => 0
  | x :: r, p => if x = p then 0 else idx r p + 1
theorem idx_app {Ps Qs : List (Int × Int)} {p : Int × Int} : p ∈ Ps → idx (Ps ++ Qs) p = idx Ps p := by
  induction Ps with
  | nil => intro h; cases h
  | cons x r ih =>
    intro h
    show (if x = p then 0 else idx (r ++ Qs) p + 1) = if x = p then 0 else idx r p + 1
    by_cases e : x = p
    · rw [if_pos e, if_pos e]
    · rw [if_neg e, if_neg e, ih ((List.mem_cons.mp h).resolve_left fun z => e z.symm)]
theorem idx_new {Ps : List (Int × Int)} {p : Int × Int} (h : p ∉ Ps) : idx (Ps ++ [p]) p = Ps.length := by
  induction Ps with
  | nil => show (if p = p then 0 else _) = 0; rw [if_pos rfl]
  | cons x r ih =>
    have h1 : ¬ p = x := fun z => h (z ▸ List.mem_cons_self)
    have h2 : p ∉ r := fun z => h (List.mem_cons_of_mem _ z)
    show (if x = p then 0 else idx (r ++ [p]) p + 1) = r.length + 1
    rw [if_neg fun z => h1 z.symm, ih h2]
theorem idx_lt {Ps : List (Int × Int)} {p : Int × Int} : p ∈ Ps → idx Ps p < Ps.length := by
  induction Ps with
  | nil => intro h; cases h
  | cons x r ih =>
    intro h
    show (if x = p then 0 else idx r p + 1) < r.length + 1
    split
    · exact Nat.succ_pos _
    · rename_i e
      exact Nat.succ_lt_succ (ih ((List.mem_cons.mp h).resolve_left fun z => e z.symm))
theorem idx_get {Ps : List (Int × Int)} {p : Int × Int} : p ∈ Ps → Ps[idx Ps p]? = some p := by
  induction Ps with
  | nil => intro h; cases h
  | cons x r ih =>
    intro h
    show (x :: r)[if x = p then 0 else idx r p + 1]? = some p
    split
    · rename_i e; rw [e]; rfl
    · rename_i e
      exact ih ((List.mem_cons.mp h).resolve_left fun z => e z.symm)
theorem idx_of {Ps : List (Int × Int)} (nd : Ps.Nodup) {i : Nat} {p : Int × Int} (h : Ps[i]? = some p) : idx Ps p = i := by
  have hm : p ∈ Ps := List.mem_of_getElem? h
  obtain ⟨h1, e1⟩ := List.getElem?_eq_some_iff.mp (idx_get hm)
  obtain ⟨h2, e2⟩ := List.getElem?_eq_some_iff.mp h
  exact (List.getElem_inj nd).mp (e1.trans e2.symm)
/-- the steps from the first k pairs -/
def stepsOf (mv : Int × Int → List PMv) (Ps : List (Int × Int)) (i : Nat) (ms : List PMv) : List Stp := ms.map fun m => ⟨(i : Nat), m.need, m.bar, (idx Ps m.e : Nat)⟩
def stOf (mv : Int × Int → List PMv) (Ps : List (Int × Int)) (k : Nat) : List Stp := (List.range k).flatMap fun i => stepsOf mv Ps i (mv (Ps.getD i (0, 0)))
theorem stOf_succ (mv : Int × Int → List PMv) (Ps : List (Int × Int)) (k : Nat) : stOf mv Ps (k + 1) = stOf mv Ps k ++ stepsOf mv Ps k (mv (Ps.getD k (0, 0))) := by
  unfold stOf
  rw [List.range_succ, List.flatMap_append]
  simp
theorem stepsOf_app {mv : Int × Int → List PMv} {Ps Qs : List (Int × Int)} {i : Nat} {ms : List PMv} (h : ∀ m ∈ ms, m.e ∈ Ps) : stepsOf mv (Ps ++ Qs) i ms = stepsOf mv Ps i ms := by
  unfold stepsOf
  refine List.map_congr_left fun m hm => ?_
  rw [idx_app (h m hm)]
theorem flat_congr {α β : Type} {f g : α → List β} : ∀ {l : List α}, (∀ a ∈ l, f a = g a) → l.flatMap f = l.flatMap g
  | [], _ => rfl
  | a :: l, h => by rw [List.flatMap_cons, List.flatMap_cons, h a List.mem_cons_self, flat_congr fun b hb => h b (List.mem_cons_of_mem a hb)]
theorem stOf_app {mv : Int × Int → List PMv} {Ps Qs : List (Int × Int)} {k : Nat} (hk : k ≤ Ps.length) (h : ∀ i p, i < k → Ps[i]? = some p → ∀ m ∈ mv p, m.e ∈ Ps) : stOf mv (Ps ++ Qs) k = stOf mv Ps k := by
  unfold stOf
  refine flat_congr fun i hi => ?_
  have hi := List.mem_range.mp hi
  have hl : i < Ps.length := by omega
  have e1 : (Ps ++ Qs).getD i (0, 0) = Ps.getD i (0, 0) := by
    rw [List.getD_eq_getElem?_getD, List.getD_eq_getElem?_getD, List.getElem?_append_left hl]
  rw [e1]
  refine stepsOf_app fun m hm => h i (Ps.getD i (0, 0)) hi ?_ m hm
  rw [List.getD_eq_getElem?_getD, List.getElem?_eq_getElem hl]; rfl
/-- where the pairs have been gone through -/
structure Closed (mv : Int × Int → List PMv) (Ps : List (Int × Int)) : Prop where
  nd : Ps.Nodup
  z : Ps[0]? = some (0, 0)
  go : ∀ p ∈ Ps, ∀ m ∈ mv p, m.e ∈ Ps
theorem aft_app (l r : List Stp) (s : Int) (lot : List Str) (h : ∀ t ∈ l, t.b ≠ s) : aft (l ++ r) s lot = aft r s lot := by
  induction l with
  | nil => rfl
  | cons t l ih =>
    show (if hit t s lot = true then t.e else aft (l ++ r) s lot) = _
    rw [if_neg (by unfold hit; rw [decide_eq_false (h t List.mem_cons_self)]; exact Bool.false_ne_true), ih fun t ht => h t (List.mem_cons_of_mem _ ht)]
theorem aft_seg {mv : Int × Int → List PMv} {Ps : List (Int × Int)} {i : Nat} {lot : List Str} {r : List Stp} : ∀ {ms : List PMv} {m : PMv}, ms.find? (mh lot) = some m → aft (stepsOf mv Ps i ms ++ r) (i : Nat) lot = (idx Ps m.e : Nat)
  | [], m, h => by cases h
  | x :: ms, m, h => by
    show (if hit ⟨(i : Nat), x.need, x.bar, (idx Ps x.e : Nat)⟩ (i : Nat) lot = true then ((idx Ps x.e : Nat) : Int) else aft (stepsOf mv Ps i ms ++ r) (i : Nat) lot) = _
    have eh : hit ⟨(i : Nat), x.need, x.bar, (idx Ps x.e : Nat)⟩ (i : Nat) lot = mh lot x := by
      unfold hit
      show (decide ((i : Int) = (i : Int)) && _) = _
      rw [decide_eq_true rfl]; rfl
    rw [eh]
    rw [List.find?_cons] at h
    cases hx : mh lot x with
    | true => rw [hx] at h; cases h; rw [if_pos rfl]
    | false => rw [hx] at h; rw [if_neg Bool.false_ne_true]; exact aft_seg h
theorem aft_st {mv : Int × Int → List PMv} {Ps : List (Int × Int)} {i : Nat} {lot : List Str} {m : PMv} (hf : (mv (Ps.getD i (0, 0))).find? (mh lot) = some m) : ∀ k, i < k → aft (stOf mv Ps k) (i : Nat) lot = (idx Ps m.e : Nat) := by
  intro k hk
  have split : ∀ n, stOf mv Ps (i + 1 + n) = stOf mv Ps (i + 1) ++ ((List.range n).flatMap fun j => stepsOf mv Ps (i + 1 + j) (mv (Ps.getD (i + 1 + j) (0, 0)))) := by
    intro n
    induction n with
    | zero => simp
    | succ n ih =>
      rw [show i + 1 + (n + 1) = (i + 1 + n) + 1 from rfl, stOf_succ, ih, List.range_succ, List.flatMap_append, List.append_assoc]
      simp
  obtain ⟨n, rfl⟩ : ∃ n, k = i + 1 + n := ⟨k - (i + 1), by omega⟩
  rw [split n, stOf_succ, List.append_assoc, aft_app _ _ _ _ fun t ht => ?_]
  · exact aft_seg hf
  · unfold stOf at ht
    obtain ⟨j, hj, ht⟩ := List.mem_flatMap.mp ht
    obtain ⟨m, _, rfl⟩ := List.mem_map.mp ht
    have := List.mem_range.mp hj
    show ((j : Nat) : Int) ≠ (i : Nat)
    omega
/-- the paired wish goes as both do -/
theorem end_pair {W U : Wd} {Ps : List (Int × Int)} (c : Closed (fun p => pmoves W U p.1 p.2) Ps) : ∀ (tale : List (List Str)) (p q : Int), (p, q) ∈ Ps →
    endW (stOf (fun p => pmoves W U p.1 p.2) Ps Ps.length) (idx Ps (p, q) : Nat) tale = (idx Ps (endW W.steps p tale, endW U.steps q tale) : Nat) ∧ (endW W.steps p tale, endW U.steps q tale) ∈ Ps
  | [], p, q, h => ⟨rfl, h⟩
  | lot :: tale, p, q, h => by
    obtain ⟨m, h1, h2⟩ := find_pmoves W U p q lot
    have eg : Ps.getD (idx Ps (p, q)) (0, 0) = (p, q) := by rw [List.getD_eq_getElem?_getD, idx_get h]; rfl
    have e := aft_st (mv := fun p => pmoves W U p.1 p.2) (Ps := Ps) (i := idx Ps (p, q)) (lot := lot) (m := m) (by rw [eg]; exact h1) Ps.length (idx_lt h)
    have hm : m.e ∈ Ps := c.go _ h m (List.mem_of_find?_eq_some h1)
    rw [h2] at e hm
    show endW _ (aft _ _ lot) tale = _ ∧ _
    rw [e]
    exact end_pair c tale _ _ hm
end Kd

namespace Kd
open PySem PySem.Spec PyProof.Rows L2 Hb St Sq Ow En
/-! ### moves as data -/
structure SmS (n k : Nat) (t : Stp) : Prop where
  ln : t.need.length ≤ n
  lb : t.bar.length ≤ k
section
variable (K : PySem.W.Frag)
def MvA (H : Hp) (v : V) (m : Mv) : Prop := ∃ a n r, v = .ref a ∧ SqT K H a [n, r, .int m.e] ∧ TS_ K H n m.need ∧ TS_ K H r m.bar
def PvA (H : Hp) (v : V) (m : PMv) : Prop := ∃ a n r b, v = .ref a ∧ SqT K H a [n, r, .ref b] ∧ TS_ K H n m.need ∧ TS_ K H r m.bar ∧ H b = some (.tup [.int m.e.1, .int m.e.2])
end
theorem MvA.fix {K : PySem.W.Frag} {H H' : Hp} {v : V} {m : Mv} (f : Fix H H') (h : MvA K H v m) : MvA K H' v m := let ⟨a, n, r, e, q, q1, q2⟩ := h; ⟨a, n, r, e, tupFix f q, q1.fix f, q2.fix f⟩
theorem PvA.fix {K : PySem.W.Frag} {H H' : Hp} {v : V} {m : PMv} (f : Fix H H') (h : PvA K H v m) : PvA K H' v m := let ⟨a, n, r, b, e, q, q1, q2, q3⟩ := h; ⟨a, n, r, b, e, tupFix f q, q1.fix f, q2.fix f, f _ _ q3 (by rintro (⟨_, z⟩ | ⟨_, z⟩) <;> cases z)⟩
section
variable {P : Program} {w : World} {K : PySem.W.Frag} {mg : Str → Option Value} {base : Heap}
theorem gone {H H' : Hp} {p : Addr} (s : Same H H') (h : H' p = none) : H p = none := by
  cases e : H p with
  | none => rfl
  | some o => rw [s _ _ e] at h; cases h
/-- u + v, tuples of texts -/
theorem cat_ts {H : Hp} {u v : V} {xs ys : List Str} {Q : VK} (hu : TS_ K H u xs) (hv : TS_ K H v ys) (q : ∀ a H', Same H H' → SqT K H' a ((xs ++ ys).map V.str) → Q (.ref a) H') : rCatA K u v H Q := by
  obtain ⟨a, rfl, ha, l1, _⟩ := hu
  obtain ⟨b, rfl, hb, l2, _⟩ := hv
  refine ⟨a, b, _, _, rfl, rfl, ha, hb, by rw [List.length_map, List.length_map, sizeLine_eq]; omega, fun e => ?_, fun _ e => ?_, fun _ _ p hp => ?_⟩
  · refine q b H (Same.refl _) ?_
    rw [List.map_append, e]; exact hb
  · refine q a H (Same.refl _) ?_
    rw [List.map_append, e, List.append_nil]; exact ha
  · refine q p _ (same_new hp _) (SqT.of ?_)
    rw [upd_same, List.map_append]
/-! ### moves_from -/
abbrev s_moves_from : Stmt := top 29
theorem sc_moves_from : FnScope ["wish", "state", "moves", "begin", "need", "bar", "behind"] ["wish", "state"] (defScope s_moves_from) := ⟨rfl, rfl, rfl, by decide +kernel, rfl, by decide +kernel, by decide +kernel⟩
def spMoves (K : PySem.W.Frag) (C : Addr) : Sp := fun vs H Q _ => ∃ (v : V) (s : Int) (W : Wd), vs = [v, .int s] ∧ WA K C H v W ∧ W.steps.length ≤ 1000 ∧ ∀ p ys H', Same H H' → H p = none → H' p = some (.lst ys) → All2 (MvA K H') ys (mvs W.steps s) → Q (.ref p) H'
theorem ok_moves {f : Addr} {fd : FuncData} (F : Fun K "moves_from" "moves_from" s_moves_from f fd) (TC : Txt K mg C_Wish) : FnOk P w K mg base CX0 1 f fd ["wish", "state"] (spMoves K C_Wish) := by
  refine F.ok sc_moves_from (fun vs H Q E h => ?_) (fun cdv A outer s H vs Q E hr h => ?_)
  · obtain ⟨_, _, _, rfl, _⟩ := h
    rfl
  · obtain ⟨v, st, W, rfl, hw, sl, q⟩ := h
    refine ⟨_, (Evl.pss_cut (ps_setLc (i := 2) (own := [("begin", 3), ("need", 4), ("bar", 5), ("behind", 6)]) (g := gTup K 4 (gCons (gName 3) (gCons (gName 4) (gCons (gName 5) (gCons (gName 6) gNil))))) (by rfl) sc_moves_from.nd rfl rfl (sw_true rfl rfl rfl (by decide +kernel)) (pi_seq (pe_fld (pv 0) rfl)) (blkOk_by (N := ["wish", "state", "moves", "begin", "need", "bar", "behind"]) (sc := defScope s_moves_from) (by decide +kernel)) (fun _ _ _ _ _ => pg_tup rfl (pgs_cons (pg_name (i := 3) sc_moves_from.nd rfl (Or.inl rfl)) (pgs_cons (pg_name (i := 4) sc_moves_from.nd rfl (Or.inl rfl)) (pgs_cons (pg_name (i := 5) sc_moves_from.nd rfl (Or.inl rfl)) (pgs_cons (pg_name (i := 6) sc_moves_from.nd rfl (Or.inl rfl)) pgs_nil))))) (fun _ _ _ _ _ => pts_one (pt_cmpR op_eq (pv 3) (pv 1) (nomark _))) (fun _ _ _ _ _ => pe_tup (pa_cons (pv 4) (pa_cons (pv 5) (pa_cons (pv 6) pa_nil)))))
    (pss_one (ps_ret (pe_op op_cat (pv 2) (pe_lst (pa_cons (pe_tup (pa_cons (pe_tup pa_nil) (pa_cons (pe_tup pa_nil) (pa_cons (pv 1) pa_nil)))) pa_nil)))))), ?_⟩
    obtain ⟨a, dx, ga, sa, its, rfl, q0, q1, q2, q3⟩ := id hw
    refine ⟨fun σ H' => ∃ D ys o1 o2 o3 o4, σ = [some (.ref a), some (.int st), some (.ref D), o1, o2, o3, o4] ∧ Same H H' ∧ H' D = some (.lst ys) ∧ All2 (fun v (t : Stp) => MvA K H' v ⟨t.need, t.bar, t.e⟩) ys (W.steps.filter fun t => decide (t.b = st)), ?_, ?_⟩
    · refine ⟨_, rfl, a, C_Wish, dx, _, _, rfl, q0, TC.cl, TC.nT, fl_steps _ _ _, sa, _, rfl, .inr q2, fun J S Wk s0 D hD => ?_⟩
      refine lc_mf (ds := W.steps) Wk (fun t => decide (t.b = st)) (fun H v (t : Stp) => MvA K H v ⟨t.need, t.bar, t.e⟩) s0 hD q3.len (fun i y d H' ey ed s m => ?_) (fun H' ys s e al => ⟨D, ys, _, _, _, _, rfl, s, e, al⟩)
      obtain ⟨d', ed', hd⟩ := q3.get ey
      obtain rfl : d' = d := Option.some.inj (ed'.symm.trans ed)
      obtain ⟨ya, yn, yr, rfl, h0, h1, h2⟩ := hd.fix (Fix.of s)
      refine ⟨ya, _, rfl, h0, rfl, _, _, rfl, _, _, rfl, _, _, rfl, _, _, rfl, rfl, rfl, ?_⟩
      refine ⟨_, rfl, _, rfl, rfl, _, rfl, ?_⟩
      have ee : decide (V.int d'.b = V.int st) = decide (d'.b = st) := decide_eq_decide.mpr (by simp)
      rw [ee]
      cases c : decide (d'.b = st) with
      | true =>
        refine iteT ⟨_, rfl, _, rfl, _, rfl, by show 3 ≤ sizeLine; decide, fun t ht => ?_⟩
        have t1 := same_new ht (.tup [yn, yr, .int d'.e])
        exact mf_yes m hD (fun _ _ _ _ f h => MvA.fix f h) ed (by omega) t1 c ⟨t, yn, yr, rfl, SqT.of upd_same, h1.fix (Fix.of t1), h2.fix (Fix.of t1)⟩
      | false => exact iteF (mf_no m (fun _ _ _ _ f h => MvA.fix f h) ed (Same.refl _) c)
    rintro σ H1 ⟨D, ys, o1, o2, o3, o4, rfl, s1, e1, al⟩
    refine ⟨_, rfl, Nat.zero_le _, fun p1 k1 => ⟨Nat.zero_le _, fun p2 k2 => ⟨_, rfl, by show 3 ≤ sizeLine; decide, fun p3 k3 => ⟨by show 1 ≤ sizeLine; decide, fun p4 k4 => ?_⟩⟩⟩⟩
    have t1 := same_new k1 (.tup [])
    have t2 := same_new k2 (.tup [])
    have t3 := same_new k3 (.tup [.ref p1, .ref p2, .int st])
    have t4 := same_new k4 (.lst [.ref p3])
    have w1 : MvA K (upd (upd (upd (upd H1 p1 (.tup [])) p2 (.tup [])) p3 (.tup [.ref p1, .ref p2, .int st])) p4 (.lst [.ref p3])) (.ref p3) ⟨[], [], st⟩ :=
      ⟨p3, .ref p1, .ref p2, rfl, SqT.of (t4 _ _ upd_same), ts_new (xs := []) (t4 _ _ (t3 _ _ (t2 _ _ upd_same))) (Nat.zero_le _) nm_nil, ts_new (xs := []) (t4 _ _ (t3 _ _ upd_same)) (Nat.zero_le _) nm_nil⟩
    have s4 : Same H1 (upd (upd (upd (upd H1 p1 (.tup [])) p2 (.tup [])) p3 (.tup [.ref p1, .ref p2, .int st])) p4 (.lst [.ref p3])) := ((t1.trans t2).trans t3).trans t4
    have e4 : (upd (upd (upd (upd H1 p1 (.tup [])) p2 (.tup [])) p3 (.tup [.ref p1, .ref p2, .int st])) p4 (.lst [.ref p3])) p4 = some (.lst [.ref p3]) := upd_same
    generalize upd (upd (upd (upd H1 p1 (.tup [])) p2 (.tup [])) p3 (.tup [.ref p1, .ref p2, .int st])) p4 (.lst [.ref p3]) = H4 at w1 s4 e4 ⊢
    have yl : ys.length ≤ 1000 := by
      rw [al.len]; exact Nat.le_trans (List.length_filter_le _ _) sl
    refine ⟨D, p4, ys, _, rfl, rfl, s4 _ _ e1, e4, by rw [sizeLine_eq]; show ys.length + 1 ≤ _; omega, fun p5 k5 => ?_⟩
    have t5 := same_new k5 (.lst (ys ++ [.ref p3]))
    refine q p5 _ _ ((s1.trans s4).trans t5) (gone (s1.trans s4) k5) upd_same ?_
    exact ((al.imp fun _ _ h => h.fix (Fix.of (s4.trans t5))).of_mapR fun (t : Stp) => (⟨t.need, t.bar, t.e⟩ : Mv)).app (.cons (w1.fix (Fix.of t5)) .nil)
/-! ### is_hidden -/
abbrev s_is_hidden : Stmt := top 30
theorem sc_is_hidden : FnScope ["move", "moves", "need", "bar", "_"] ["move", "moves"] (defScope s_is_hidden) := ⟨rfl, rfl, rfl, by decide +kernel, rfl, by decide +kernel, by decide +kernel⟩
def spHidden (K : PySem.W.Frag) : Sp := fun vs H Q _ => ∃ (v : V) (p : Addr) (m : PMv) (ys : List V) (ms : List PMv), vs = [v, .ref p] ∧ PvA K H v m ∧ H p = some (.lst ys) ∧ All2 (PvA K H) ys ms ∧ ms.length ≤ 100000 ∧ ∀ H', Same H H' → Q (.bl (hidden m ms)) H'
theorem ok_hidden {f : Addr} {fd : FuncData} (F : Fun K "is_hidden" "is_hidden" s_is_hidden f fd) (C_has_all : Cl P w K mg base "has_all" ["names", "some"] [] 1 (spAll K)) (n_any : mg "any" = none) : FnOk P w K mg base CX0 2 f fd ["move", "moves"] (spHidden K) := by
  refine F.ok sc_is_hidden (fun vs H Q E h => ?_) (fun cdv A outer s H vs Q E hr h => ?_)
  · obtain ⟨_, _, _, _, _, rfl, _⟩ := h
    rfl
  · obtain ⟨_, p, m, ys, ms, rfl, ⟨a, n, r, b, rfl, h0, h1, h2, h3⟩, hp, hm, ml, q⟩ := h
    refine ⟨_, (pss_one (ps_ret (pe_callB (cr_any rfl) (by rfl) n_any (by decide +kernel) (pa_cons (pe_lc (own := [("need", 2), ("bar", 3), ("_", 4)]) (g := gTup K 3 (gCons (gName 2) (gCons (gName 3) (gCons (gName 4) gNil)))) rfl sc_is_hidden.nd (pi_seq (pv 1)) (blkOk_by (N := ["move", "moves", "need", "bar", "_"]) (sc := defScope s_is_hidden) (by decide +kernel)) (fun _ _ _ _ _ => pg_tup rfl (pgs_cons (pg_name (i := 2) sc_is_hidden.nd rfl (Or.inl rfl)) (pgs_cons (pg_name (i := 3) sc_is_hidden.nd rfl (Or.inl rfl)) (pgs_cons (pg_name (i := 4) sc_is_hidden.nd rfl (Or.inl rfl)) pgs_nil)))) (fun _ _ _ _ _ => pts_nil) (fun _ _ _ _ _ => pe_and (pe_use C_has_all (hr.mono (by decide)) rfl (pa_cons (pe_ix (r := rIxT K) ix_tup (pv 0) pe_int (fun _ _ => rfl)) (pa_cons (pv 2) pa_nil))) (pe_one (pe_use C_has_all (hr.mono (by decide)) rfl (pa_cons (pe_ix (r := rIxT K) ix_tup (pv 0) pe_int (fun _ _ => rfl)) (pa_cons (pv 3) pa_nil)))))) pa_nil)))), ?_⟩
    refine ⟨_, rfl, p, _, rfl, SqX.lst hp, fun J S W s0 D hD => ?_⟩
    refine lc_mf (ds := ms) W (fun _ => true) (fun _ y (k : PMv) => y = .bl (k.need.all (fun x => decide (x ∈ m.need)) && k.bar.all (fun x => decide (x ∈ m.bar)))) s0 hD hm.len (fun i y d H' ey ed s mf => ?_) (fun H' zs s e al => ?_)
    · obtain ⟨d', ed', hd⟩ := hm.get ey
      obtain rfl : d' = d := Option.some.inj (ed'.symm.trans ed)
      obtain ⟨ya, yn, yr, yb, rfl, k0, k1, k2, k3⟩ := hd.fix (Fix.of s)
      refine ⟨ya, _, rfl, k0, rfl, _, _, rfl, _, _, rfl, _, _, rfl, rfl, rfl, ?_⟩
      refine ⟨_, rfl, a, _, _, n, rfl, rfl, tupFix (Fix.of s) h0, rfl, _, rfl, n, yn, m.need, d'.need, rfl, (h1.fix (Fix.of s)).tx, k1, fun H2 s2 => ⟨_, rfl, ?_⟩⟩
      cases c : d'.need.all fun x => decide (x ∈ m.need) with
      | true =>
        refine iteT ⟨_, rfl, a, _, _, r, rfl, rfl, tupFix (Fix.of (s.trans s2)) h0, rfl, _, rfl, r, yr, m.bar, d'.bar, rfl, (h2.fix (Fix.of (s.trans s2))).tx, k2.fix (Fix.of s2), fun H3 s3 => ?_⟩
        exact mf_yes mf hD (fun _ _ _ _ _ h => h) ed ml (s2.trans s3) rfl (by rw [c]; rfl)
      | false =>
        refine iteF ?_
        exact mf_yes mf hD (fun _ _ _ _ _ h => h) ed ml s2 rfl (by rw [c]; rfl)
    · rw [List.filter_eq_self.mpr fun _ _ => rfl] at al
      have ez := bl_map (f := fun k : PMv => k.need.all (fun x => decide (x ∈ m.need)) && k.bar.all (fun x => decide (x ∈ m.bar))) al
      refine ⟨D, _, rfl, SqL.of (by rw [← ez]; exact e), ?_⟩
      rw [show ((ms.map fun k : PMv => k.need.all (fun x => decide (x ∈ m.need)) && k.bar.all (fun x => decide (x ∈ m.bar))).any id) = hidden m ms by rw [List.any_map]; rfl]
      exact q H' s
/-! ### good_sides -/
abbrev s_good_sides : Stmt := top 27
theorem sc_good_sides : FnScope ["one", "other", "pair", "wish", "state"] ["one", "other", "pair"] (defScope s_good_sides) := ⟨rfl, rfl, rfl, by decide +kernel, rfl, by decide +kernel, by decide +kernel⟩
def sides (W U : Wd) (p : Int × Int) : Nat := ([decide (p.1 ∈ W.good), decide (p.2 ∈ U.good)].filter id).length
def spSides (K : PySem.W.Frag) (C : Addr) : Sp := fun vs H Q _ => ∃ (v u : V) (a : Addr) (W U : Wd) (p : Int × Int), vs = [v, u, .ref a] ∧ WA K C H v W ∧ WA K C H u U ∧ H a = some (.tup [.int p.1, .int p.2]) ∧ ∀ H', Same H H' → Q (.int (sides W U p : Nat)) H'
theorem ok_sides {f : Addr} {fd : FuncData} (F : Fun K "good_sides" "good_sides" s_good_sides f fd) (TC : Txt K mg C_Wish) (n_len : mg "len" = none) : FnOk P w K mg base CX0 1 f fd ["one", "other", "pair"] (spSides K C_Wish) := by
  refine F.ok sc_good_sides (fun vs H Q E h => ?_) (fun cdv A outer s H vs Q E hr h => ?_)
  · obtain ⟨_, _, _, _, _, _, rfl, _⟩ := h
    rfl
  · obtain ⟨v, u, pa, W, U, p, rfl, hv, hu, hp, q⟩ := h
    refine ⟨_, (pss_one (ps_ret (pe_callB call_len_seq (by rfl) n_len PySem.boot_len (pa_cons (pe_lc (own := [("wish", 3), ("state", 4)]) (g := gTup K 2 (gCons (gName 3) (gCons (gName 4) gNil))) rfl sc_good_sides.nd (pi_seq (pe_tup (pa_cons (pe_tup (pa_cons (pv 0) (pa_cons (pe_ix ix_tup (pv 2) pe_int (fun _ _ => rfl)) pa_nil))) (pa_cons (pe_tup (pa_cons (pv 1) (pa_cons (pe_ix ix_tup (pv 2) pe_int (fun _ _ => rfl)) pa_nil))) pa_nil)))) (blkOk_by (N := ["one", "other", "pair", "wish", "state"]) (sc := defScope s_good_sides) (by decide +kernel)) (fun _ _ _ _ _ => pg_tup rfl (pgs_cons (pg_name (i := 3) sc_good_sides.nd rfl (Or.inl rfl)) (pgs_cons (pg_name (i := 4) sc_good_sides.nd rfl (Or.inl rfl)) pgs_nil))) (fun _ _ _ _ _ => pts_one (pt_cmpR (r := rIn K false) op_in_seq (pv 4) (pe_fldK K (pv 3) rfl) rfl)) (fun _ _ _ _ _ => pe_int)) pa_nil)))), ?_⟩
    refine ⟨_, rfl, _, rfl, pa, _, _, .int p.1, rfl, rfl, SqT.of hp, rfl, by show 2 ≤ sizeLine; decide, fun t1 k1 => ?_⟩
    have s1 := same_new k1 (.tup [v, .int p.1])
    refine ⟨_, rfl, _, rfl, pa, _, _, .int p.2, rfl, rfl, SqT.of (s1 _ _ hp), rfl, by show 2 ≤ sizeLine; decide, fun t2 k2 => ?_⟩
    have s2 := same_new k2 (.tup [u, .int p.2])
    refine ⟨by show 2 ≤ sizeLine; decide, fun t3 k3 => ?_⟩
    have s3 := same_new k3 (.tup [.ref t1, .ref t2])
    have e1 := s3 _ _ (s2 _ _ (show (upd H t1 (.tup [v, .int p.1])) t1 = _ from upd_same))
    have e2 := s3 _ _ (show (upd (upd H t1 (.tup [v, .int p.1])) t2 (.tup [u, .int p.2])) t2 = _ from upd_same)
    have e3 : upd (upd (upd H t1 (.tup [v, .int p.1])) t2 (.tup [u, .int p.2])) t3 (.tup [.ref t1, .ref t2]) t3 = some (.tup [.ref t1, .ref t2]) := upd_same
    have s13 : Same H (upd (upd (upd H t1 (.tup [v, .int p.1])) t2 (.tup [u, .int p.2])) t3 (.tup [.ref t1, .ref t2])) := (s1.trans s2).trans s3
    generalize upd (upd (upd H t1 (.tup [v, .int p.1])) t2 (.tup [u, .int p.2])) t3 (.tup [.ref t1, .ref t2]) = H1 at e1 e2 e3 s13 ⊢
    refine ⟨t3, _, rfl, SqX.tup e3, fun J S Wk s0 D hD => ?_⟩
    unfold sides at q
    obtain ⟨b1, hb1⟩ : ∃ b, decide (p.1 ∈ W.good) = b := ⟨_, rfl⟩
    obtain ⟨b2, hb2⟩ : ∃ b, decide (p.2 ∈ U.good) = b := ⟨_, rfl⟩
    rw [hb1, hb2] at q
    refine lc_mf (ds := [b1, b2]) Wk id (fun _ y _ => y = .int 1) s0 hD rfl (fun i y d H' ey ed s mf => ?_) (fun H' ys s e al => ?_)
    · match i, ey, ed with
      | 0, ey, ed =>
        cases ey; cases ed
        obtain ⟨a, dx, ga, sa, its, rfl, q0, q1, q2, q3⟩ := hv.same (s13.trans s)
        refine ⟨t1, _, rfl, SqT.of (s _ _ e1), rfl, _, _, rfl, _, _, rfl, rfl, rfl, ?_⟩
        refine ⟨_, rfl, _, rfl, a, C_Wish, dx, _, _, rfl, q0, TC.cl, TC.nG, fl_good _ _ _, in_ints (.inr q1) ⟨_, rfl, ?_⟩⟩
        rw [hb1]
        cases b1 with
        | true => exact iteT (mf_yes mf hD (fun _ _ _ _ _ h => h) rfl (by show 2 ≤ 100000; decide) (Same.refl _) rfl rfl)
        | false => exact iteF (mf_no mf (fun _ _ _ _ _ h => h) rfl (Same.refl _) rfl)
      | 1, ey, ed =>
        cases ey; cases ed
        obtain ⟨a, dx, ga, sa, its, rfl, q0, q1, q2, q3⟩ := hu.same (s13.trans s)
        refine ⟨t2, _, rfl, SqT.of (s _ _ e2), rfl, _, _, rfl, _, _, rfl, rfl, rfl, ?_⟩
        refine ⟨_, rfl, _, rfl, a, C_Wish, dx, _, _, rfl, q0, TC.cl, TC.nG, fl_good _ _ _, in_ints (.inr q1) ⟨_, rfl, ?_⟩⟩
        rw [hb2]
        cases b2 with
        | true => exact iteT (mf_yes mf hD (fun _ _ _ _ _ h => h) rfl (by show 2 ≤ 100000; decide) (Same.refl _) rfl rfl)
        | false => exact iteF (mf_no mf (fun _ _ _ _ _ h => h) rfl (Same.refl _) rfl)
      | n + 2, ey, ed => cases ed
    · refine ⟨D, ys, rfl, .inl (SqL.of e), ?_⟩
      rw [al.len]
      exact q H' (s13.trans s)
end
end Kd

namespace Kd
open PySem PySem.Spec PyProof.Rows L2 Hb St Sq Ow En
/-- small enough for pairs -/
structure SmW (W : Wd) : Prop where
  n3 : W.n ≤ 3
  s4 : W.steps.length ≤ 4
  ln : ∀ s ∈ W.steps, s.need.length ≤ 100
  lb : ∀ s ∈ W.steps, s.bar.length ≤ 100
theorem mvs_len (ss : List Stp) (s : Int) : (mvs ss s).length ≤ ss.length + 1 := by
  unfold mvs
  rw [List.length_append, List.length_map]
  have := List.length_filter_le (fun t => decide (t.b = s)) ss
  show _ + 1 ≤ _
  omega
theorem mvs_pos (ss : List Stp) (s : Int) : 0 < (mvs ss s).length := by
  unfold mvs
  rw [List.length_append]
  show 0 < _ + 1
  omega
theorem mvs_small {W : Wd} (h : SmW W) {s : Int} {m : Mv} (hm : m ∈ mvs W.steps s) : m.need.length ≤ 100 ∧ m.bar.length ≤ 100 := by
  rcases List.mem_append.mp hm with hm | hm
  · obtain ⟨t, ht, rfl⟩ := List.mem_map.mp hm
    have := (List.mem_filter.mp ht).1
    exact ⟨h.ln t this, h.lb t this⟩
  · rw [List.mem_singleton.mp hm]
    exact ⟨Nat.zero_le _, Nat.zero_le _⟩
theorem pstep_len : ∀ (L acc : List PMv), (L.foldl pstep acc).length ≤ acc.length + L.length
  | [], acc => Nat.le_refl _
  | m :: L, acc => by
    have h := pstep_len L (pstep acc m)
    have h2 : (pstep acc m).length ≤ acc.length + 1 := by
      unfold pstep
      split
      · rw [List.length_append]; exact Nat.le_refl _
      · omega
    show (L.foldl pstep (pstep acc m)).length ≤ _
    rw [List.length_cons]; omega
theorem pstep_no1 {acc : List PMv} {m : PMv} (h : (m.bar.all fun x => !decide (x ∈ m.need)) = false) : pstep acc m = acc := by unfold pstep; rw [h]; rfl
theorem pstep_no2 {acc : List PMv} {m : PMv} (h : hidden m acc = true) : pstep acc m = acc := by unfold pstep; rw [h, Bool.not_true, Bool.and_false]; rfl
theorem pstep_yes {acc : List PMv} {m : PMv} (h : (m.bar.all fun x => !decide (x ∈ m.need)) = true) (k : hidden m acc = false) : pstep acc m = acc ++ [m] := by unfold pstep; rw [h, k]; rfl
theorem combs_len (l1 l2 : List Mv) : (combs l1 l2).length = l1.length * l2.length := by
  unfold combs
  induction l1 with
  | nil => simp
  | cons a l ih => rw [List.flatMap_cons, List.length_append, ih, List.length_map, List.length_cons, Nat.add_mul]; omega
theorem combs_take {l1 l2 : List Mv} {i : Nat} {a : Mv} (h : l1[i]? = some a) : combs (l1.take (i + 1)) l2 = combs (l1.take i) l2 ++ l2.map (comb a) := by
  unfold combs
  rw [List.take_add_one, h, List.flatMap_append]
  simp
section
variable {P : Program} {w : World} {K : PySem.W.Frag} {mg : Str → Option Value} {base : Heap}
/-! ### paired_moves -/
abbrev s_paired_moves : Stmt := top 28
theorem sc_paired_moves : FnScope ["one", "other", "pair", "moves", "need", "bar", "state", "also_need", "also_bar", "also_state", "move"] ["one", "other", "pair"] (defScope s_paired_moves) := ⟨rfl, rfl, rfl, by decide +kernel, rfl, by decide +kernel, by decide +kernel⟩
def spPMoves (K : PySem.W.Frag) (C : Addr) : Sp := fun vs H Q _ => ∃ (v u : V) (a : Addr) (W U : Wd) (p q : Int), vs = [v, u, .ref a] ∧ WA K C H v W ∧ WA K C H u U ∧ H a = some (.tup [.int p, .int q]) ∧ SmW W ∧ SmW U ∧
  ∀ pl ys H', Same H H' → H pl = none → H' pl = some (.lst ys) → All2 (PvA K H') ys (pmoves W U p q) → Q (.ref pl) H'
theorem kept_same {H H' H'' : Hp} {p : Addr} (s : Same H H') (k : Kept p H' H'') : Kept p H H'' := (Hb.Same.kept s).trans k
theorem ok_pmoves {f : Addr} {fd : FuncData} (F : Fun K "paired_moves" "paired_moves" s_paired_moves f fd) (C_as_lot : Cl P w K mg base "as_lot" ["values"] [] 1 (spLot K)) (C_has_none : Cl P w K mg base "has_none" ["names", "some"] [] 1 (spNone K)) (C_is_hidden : Cl P w K mg base "is_hidden" ["move", "moves"] [] 2 (spHidden K)) (C_moves_from : Cl P w K mg base "moves_from" ["wish", "state"] [] 1 (spMoves K C_Wish)) : FnOk P w K mg base CX0 3 f fd ["one", "other", "pair"] (spPMoves K C_Wish) := by
  refine F.ok sc_paired_moves (fun vs H Q E h => ?_) (fun cdv A outer s H vs Q E hr h => ?_)
  · obtain ⟨_, _, _, _, _, _, _, rfl, _⟩ := h
    rfl
  · obtain ⟨v, u, pa, W, U, p, q, rfl, hv, hu, hp, sw, su, qq⟩ := h
    refine ⟨_, (pss_cons (ps_set (i := 3) sc_paired_moves.nd rfl (Or.inl rfl) (pe_lst pa_nil))
    (Evl.pss_cut (ps_for PassesOwn.never rfl (pi_seq (pe_use C_moves_from (hr.mono (by decide)) rfl (pa_cons (pv 0) (pa_cons (pe_ix ix_tup (pv 2) pe_int (fun _ _ => rfl)) pa_nil)))) (pg_tup rfl (pgs_cons (pg_name (i := 4) sc_paired_moves.nd rfl (Or.inl rfl)) (pgs_cons (pg_name (i := 5) sc_paired_moves.nd rfl (Or.inl rfl)) (pgs_cons (pg_name (i := 6) sc_paired_moves.nd rfl (Or.inl rfl)) pgs_nil))))
      (pss_one (ps_for PassesOwn.never rfl (pi_seq (pe_use C_moves_from (hr.mono (by decide)) rfl (pa_cons (pv 1) (pa_cons (pe_ix ix_tup (pv 2) pe_int (fun _ _ => rfl)) pa_nil)))) (pg_tup rfl (pgs_cons (pg_name (i := 7) sc_paired_moves.nd rfl (Or.inl rfl)) (pgs_cons (pg_name (i := 8) sc_paired_moves.nd rfl (Or.inl rfl)) (pgs_cons (pg_name (i := 9) sc_paired_moves.nd rfl (Or.inl rfl)) pgs_nil))))
      (pss_cons (ps_set (i := 10) sc_paired_moves.nd rfl (Or.inl rfl) (pe_tup (pa_cons (pe_use C_as_lot (hr.mono (by decide)) rfl (pa_cons (pe_op op_catA (pv 4) (pv 7)) pa_nil)) (pa_cons (pe_use C_as_lot (hr.mono (by decide)) rfl (pa_cons (pe_op op_catA (pv 5) (pv 8)) pa_nil)) (pa_cons (pe_tup (pa_cons (pv 6) (pa_cons (pv 9) pa_nil))) pa_nil)))))
    (pss_one (ps_if (PW.pt (pw_and (pt_val (pe_use C_has_none (hr.mono (by decide)) rfl (pa_cons (pe_ix ix_tup (pv 10) pe_int (fun _ _ => rfl)) (pa_cons (pe_ix ix_tup (pv 10) pe_int (fun _ _ => rfl)) pa_nil)))) (pw_and1 (pt_not (pt_val (pe_use C_is_hidden (hr.mono (by decide)) rfl (pa_cons (pv 10) (pa_cons (pv 3) pa_nil)))))))) (pss_one (ps_expr (pe_bm PySem.F.plainAttrs_list PySem.F.slot_list_append PySem.F.type_list_append mt_append (pv 3) (pa_cons (pv 10) pa_nil)))) pss_nil))))))
    (pss_one (ps_ret (pv 3))))), ?_⟩
    refine ⟨Nat.zero_le _, fun pl kl => ?_⟩
    have s0 := same_new kl (.lst [])
    have e0 : upd H pl (.lst []) pl = some (.lst []) := upd_same
    generalize upd H pl (.lst []) = H0 at s0 e0 ⊢
    let l1 := mvs W.steps p
    let l2 := mvs U.steps q
    have len1 := mvs_len W.steps p
    have len2 := mvs_len U.steps q
    have ws := sw.s4
    have us := su.s4
    refine ⟨fun σ H' => (∃ o1 o2 o3 o4 o5 o6 o7, σ = [some v, some u, some (.ref pa), some (.ref pl), o1, o2, o3, o4, o5, o6, o7]) ∧ Kept pl H0 H' ∧ ∃ ys, H' pl = some (.lst ys) ∧ All2 (PvA K H') ys (pmoves W U p q), ?_, ?_⟩
    · refine ⟨_, rfl, _, rfl, pa, _, _, .int p, rfl, rfl, SqT.of (s0 _ _ hp), rfl, v, p, W, rfl, hv.same s0, by omega, fun a1 xs1 H1 s1 f1 e1 al1 => ?_⟩
      have ne1 : a1 ≠ pl := fun z => by rw [z, e0] at f1; cases f1
      refine ⟨a1, _, rfl, SqX.lst e1, fun J S Wk st => ?_⟩
      refine for_sq Wk (fun i σ H' => (∃ o1 o2 o3 o4 o5 o6 o7, σ = [some v, some u, some (.ref pa), some (.ref pl), o1, o2, o3, o4, o5, o6, o7]) ∧ Kept pl H1 H' ∧ ∃ ys, H' pl = some (.lst ys) ∧ All2 (PvA K H') ys ((combs (l1.take i) l2).foldl pstep []))
        ⟨⟨none, none, none, none, none, none, none, rfl⟩, Kept.refl _ _, [], s1 _ _ e0, .nil⟩ (fun i σ H' pv => Wk.keep (fun o e => pv.2.1 _ _ e ne1) st) ?_ ?_
      · rintro i σ H2 y ey ⟨⟨o1, o2, o3, o4, o5, o6, o7, rfl⟩, k2, ys, e2, al2⟩
        have fx2 : Fix H1 H2 := Fix.kept (s1 _ _ e0) k2
        obtain ⟨m1, em1, hm1⟩ := al1.get ey
        obtain ⟨ya, yn, yr, rfl, h0, h1, h2⟩ := hm1.fix fx2
        refine ⟨ya, _, rfl, h0, rfl, _, _, rfl, _, _, rfl, _, _, rfl, rfl, ?_⟩
        have hp2 : H2 pa = some (.tup [.int p, .int q]) := fx2 _ _ (s1 _ _ (s0 _ _ hp)) (by rintro (⟨_, z⟩ | ⟨_, z⟩) <;> cases z)
        refine ⟨_, rfl, _, rfl, pa, _, _, .int q, rfl, rfl, SqT.of hp2, rfl, u, q, U, rfl, (hu.same (s0.trans s1)).fix fx2, by omega, fun a3 xs3 H3 s3 f3 e3 al3 => ?_⟩
        have ne3 : a3 ≠ pl := fun z => by rw [z, e2] at f3; cases f3
        refine ⟨a3, _, rfl, SqX.lst e3, fun J' S' Wk' st' => ?_⟩
        refine for_sq Wk' (fun j σ H' => (∃ o4 o5 o6 o7, σ = [some v, some u, some (.ref pa), some (.ref pl), some yn, some yr, some (.int m1.e), o4, o5, o6, o7]) ∧ Kept pl H3 H' ∧ ∃ ys, H' pl = some (.lst ys) ∧ All2 (PvA K H') ys ((combs (l1.take i) l2 ++ (l2.take j).map (comb m1)).foldl pstep []))
          ⟨⟨_, _, _, _, rfl⟩, Kept.refl _ _, ys, s3 _ _ e2, by rw [List.take_zero, List.map_nil, List.append_nil]; exact al2.imp fun _ _ h => h.fix (Fix.of s3)⟩ (fun j σ H' pv => Wk'.keep (fun o e => pv.2.1 _ _ e ne3) st') ?_ ?_
        · rintro j σ H4 z ez ⟨⟨o4', o5', o6', o7', rfl⟩, k4, zs, e4, al4⟩
          have fx4 : Fix H3 H4 := Fix.kept (s3 _ _ e2) k4
          obtain ⟨m2, em2, hm2⟩ := al3.get ez
          obtain ⟨za, zn, zr, rfl, g0, g1, g2⟩ := hm2.fix fx4
          have b1 : TS_ K H4 yn m1.need := (h1.fix (Fix.of s3)).fix fx4
          have b2 : TS_ K H4 yr m1.bar := (h2.fix (Fix.of s3)).fix fx4
          obtain ⟨sm1, sm2⟩ := mvs_small sw (at_mem em1)
          obtain ⟨sm3, sm4⟩ := mvs_small su (at_mem em2)
          have nmN : ∀ x ∈ lotS (m1.need ++ m2.need), IsNm x := fun x hx => by
            obtain ⟨_, _, _, _, c1⟩ := b1
            obtain ⟨_, _, _, _, c2⟩ := g1
            exact (List.mem_append.mp (mem_lotS.mp hx)).elim (c1 x) (c2 x)
          have nmB : ∀ x ∈ lotS (m1.bar ++ m2.bar), IsNm x := fun x hx => by
            obtain ⟨_, _, _, _, c1⟩ := b2
            obtain ⟨_, _, _, _, c2⟩ := g2
            exact (List.mem_append.mp (mem_lotS.mp hx)).elim (c1 x) (c2 x)
          have la : (m1.need ++ m2.need).length ≤ 1000 := by rw [List.length_append]; omega
          have lb : (m1.bar ++ m2.bar).length ≤ 1000 := by rw [List.length_append]; omega
          refine ⟨za, _, rfl, g0, rfl, _, _, rfl, _, _, rfl, _, _, rfl, rfl, ?_⟩
          refine ⟨_, rfl, _, rfl, cat_ts b1 g1 fun z1 G1 t1 c1 => ⟨z1, rfl, .inl ⟨_, .inr c1, la, fun p1 G2 t2 x2 => ?_⟩⟩⟩
          refine ⟨_, rfl, _, rfl, cat_ts (b2.fix (Fix.of (t1.trans t2))) (g2.fix (Fix.of (t1.trans t2))) fun z3 G3 t3 c3 => ⟨z3, rfl, .inl ⟨_, .inr c3, lb, fun p4 G4 t4 x4 => ?_⟩⟩⟩
          refine ⟨_, rfl, _, rfl, by show 2 ≤ sizeLine; decide, fun p5 k5 => ⟨by show 3 ≤ sizeLine; decide, fun p6 k6 => ?_⟩⟩
          have t5 := same_new k5 (.tup [.int m1.e, .int m2.e])
          have t6 := same_new k6 (.tup [.ref p1, .ref p4, .ref p5])
          have mv : PvA K (upd (upd G4 p5 (.tup [.int m1.e, .int m2.e])) p6 (.tup [.ref p1, .ref p4, .ref p5])) (.ref p6) (comb m1 m2) :=
            ⟨p6, .ref p1, .ref p4, p5, rfl, SqT.of upd_same, ts_new (t6 _ _ (t5 _ _ (t4 _ _ (t3 _ _ x2)))) (Nat.le_trans (len_lotS _) la) nmN, ts_new (t6 _ _ (t5 _ _ x4)) (Nat.le_trans (len_lotS _) lb) nmB, t6 _ _ upd_same⟩
          have s6 : Same H4 (upd (upd G4 p5 (.tup [.int m1.e, .int m2.e])) p6 (.tup [.ref p1, .ref p4, .ref p5])) := ((((t1.trans t2).trans t3).trans t4).trans t5).trans t6
          generalize upd (upd G4 p5 (.tup [.int m1.e, .int m2.e])) p6 (.tup [.ref p1, .ref p4, .ref p5]) = H6 at mv s6 ⊢
          have e6 := s6 _ _ e4
          have al6 := al4.imp fun _ _ h => PvA.fix (Fix.of s6) h
          have tk : (l2.take (j + 1)).map (comb m1) = (l2.take j).map (comb m1) ++ [comb m1 m2] := by rw [List.take_add_one, em2, List.map_append]; rfl
          have fin : (combs (l1.take i) l2 ++ (l2.take (j + 1)).map (comb m1)).foldl pstep [] = pstep ((combs (l1.take i) l2 ++ (l2.take j).map (comb m1)).foldl pstep []) (comb m1 m2) := by
            rw [tk, ← List.append_assoc, List.foldl_append]; rfl
          have small : ((combs (l1.take i) l2 ++ (l2.take j).map (comb m1)).foldl pstep []).length ≤ 100000 := by
            refine Nat.le_trans (pstep_len _ _) ?_
            rw [List.length_append, combs_len, List.length_map]
            have q1 : (l1.take i).length ≤ 5 := by rw [List.length_take]; exact Nat.le_trans (Nat.min_le_right _ _) (by show (mvs W.steps p).length ≤ 5; omega)
            have q2 : (l2.take j).length ≤ 5 := by rw [List.length_take]; exact Nat.le_trans (Nat.min_le_right _ _) (by show (mvs U.steps q).length ≤ 5; omega)
            have q3 : l2.length ≤ 5 := by show (mvs U.steps q).length ≤ 5; omega
            have q4 := Nat.mul_le_mul q1 q3
            simp only [List.length_nil]
            omega
          obtain ⟨_, n6, r6, b6, er, w0, w1, w2, w3⟩ := id mv
          cases er
          refine ⟨_, rfl, p6, _, _, n6, rfl, rfl, w0, rfl, _, rfl, p6, _, _, r6, rfl, rfl, w0, rfl, n6, r6, _, _, rfl, w1.tx, w2, fun H7 s7 => ⟨_, rfl, ?_⟩⟩
          have go : ∀ H8, Same H6 H8 → pstep ((combs (l1.take i) l2 ++ (l2.take j).map (comb m1)).foldl pstep []) (comb m1 m2) = (combs (l1.take i) l2 ++ (l2.take j).map (comb m1)).foldl pstep [] →
              Kept pl H3 H8 ∧ ∃ ys, H8 pl = some (.lst ys) ∧ All2 (PvA K H8) ys ((combs (l1.take i) l2 ++ (l2.take (j + 1)).map (comb m1)).foldl pstep []) := fun H8 s8 e8 =>
            ⟨k4.trans (Hb.Same.kept (s6.trans s8)), zs, s8 _ _ e6, by rw [fin, e8]; exact al6.imp fun _ _ h => PvA.fix (Fix.of s8) h⟩
          cases c1 : (comb m1 m2).bar.all fun x => !decide (x ∈ (comb m1 m2).need) with
          | false =>
            exact iteF ⟨⟨_, _, _, _, rfl⟩, go H7 s7 (pstep_no1 c1)⟩
          | true =>
            refine iteT ⟨_, rfl, _, rfl, .ref p6, pl, comb m1 m2, zs, _, rfl, mv.fix (Fix.of s7), s7 _ _ e6, al6.imp fun _ _ h => PvA.fix (Fix.of s7) h, small, fun H8 s8 => ⟨_, rfl, ?_⟩⟩
            cases c2 : hidden (comb m1 m2) ((combs (l1.take i) l2 ++ (l2.take j).map (comb m1)).foldl pstep []) with
            | true =>
              exact iteF ⟨⟨_, _, _, _, rfl⟩, go H8 (s7.trans s8) (pstep_no2 c2)⟩
            | false =>
              have e8 := s8 _ _ (s7 _ _ e6)
              have zl : zs.length < sizeLine := by rw [al4.len, sizeLine_eq]; omega
              refine iteT ⟨_, rfl, .inl ⟨rfl, _, SqL.of e8⟩, _, rfl, pl, _, _, rfl, rfl, e8, zl, ?_⟩
              refine ⟨⟨_, _, _, _, rfl⟩, (k4.trans (Hb.Same.kept ((s6.trans s7).trans s8))).trans kept_upd, _, upd_same, ?_⟩
              rw [fin, pstep_yes c1 c2]
              have fx : Fix H6 (upd H8 pl (.lst (zs ++ [.ref p6]))) := (Fix.of (s7.trans s8)).trans (Fix.lst e8)
              exact (al6.imp fun _ _ h => PvA.fix fx h).app (.cons (mv.fix fx) .nil)
        · rintro σ H4 ⟨⟨o4', o5', o6', o7', rfl⟩, k4, zs, e4, al4⟩
          refine ⟨⟨_, _, _, _, _, _, _, rfl⟩, k2.trans (kept_same s3 k4), zs, e4, ?_⟩
          rw [combs_take em1]
          rw [al3.len, List.take_length] at al4
          exact al4
      · rintro σ H2 ⟨⟨o1, o2, o3, o4, o5, o6, o7, rfl⟩, k2, ys, e2, al2⟩
        refine ⟨⟨_, _, _, _, _, _, _, rfl⟩, kept_same s1 k2, ys, e2, ?_⟩
        rw [al1.len, List.take_length] at al2
        exact al2
    rintro σ H1 ⟨⟨o1, o2, o3, o4, o5, o6, o7, rfl⟩, k1, ys, e1, al⟩
    exact ⟨_, rfl, qq pl ys H1 (fun b o e => k1 b o (s0 b o e) (ne_of_none e kl)) kl e1 al⟩
end
end Kd

namespace Kd
open PySem PySem.Spec PyProof.Rows L2 Hb St Sq Ow En
/-! ### the dict of numbers -/
def key (p : Int × Int) : List Key := [Sum.inl p.1, Sum.inl p.2]
theorem key_inj {p q : Int × Int} (h : key p = key q) : p = q := by
  obtain ⟨a, b⟩ := p
  obtain ⟨c, d⟩ := q
  unfold key at h
  simp only [List.cons.injEq, Sum.inl.injEq] at h
  obtain ⟨h1, h2, _⟩ := h
  subst h1; subst h2; rfl
def kvsFrom : Nat → List (Int × Int) → List (List Key × V)
  | _, [] => []
  | n, p :: r => (key p, .int (n : Nat)) :: kvsFrom (n + 1) r
theorem kvs_snoc (p : Int × Int) : ∀ (Ps : List (Int × Int)) (n : Nat), kvsFrom n (Ps ++ [p]) = kvsFrom n Ps ++ [(key p, .int ((n + Ps.length : Nat) : Int))]
  | [], n => rfl
  | x :: r, n => by
    show (key x, V.int (n : Nat)) :: kvsFrom (n + 1) (r ++ [p]) = _
    rw [kvs_snoc p r (n + 1)]
    show _ = (key x, V.int (n : Nat)) :: (kvsFrom (n + 1) r ++ _)
    rw [show n + 1 + r.length = n + (x :: r).length by rw [List.length_cons]; omega]
theorem kvs_len : ∀ (Ps : List (Int × Int)) (n : Nat), (kvsFrom n Ps).length = Ps.length
  | [], _ => rfl
  | _ :: r, n => congrArg (· + 1) (kvs_len r (n + 1))
theorem kvs_none {p : Int × Int} : ∀ {Ps : List (Int × Int)} {n : Nat}, p ∉ Ps → valV (kvsFrom n Ps) (key p) = none
  | [], _, _ => rfl
  | x :: r, n, h => by
    show valV ((key x, V.int (n : Nat)) :: kvsFrom (n + 1) r) (key p) = none
    rw [valV_neg fun z => h (by rw [key_inj z]; exact List.mem_cons_self)]
    exact kvs_none fun z => h (List.mem_cons_of_mem _ z)
theorem kvs_some {p : Int × Int} : ∀ {Ps : List (Int × Int)} {n : Nat}, p ∈ Ps → valV (kvsFrom n Ps) (key p) = some (.int ((n + idx Ps p : Nat) : Int))
  | [], _, h => by cases h
  | x :: r, n, h => by
    show valV ((key x, V.int (n : Nat)) :: kvsFrom (n + 1) r) (key p) = some (.int ((n + (if x = p then 0 else idx r p + 1) : Nat) : Int))
    by_cases e : x = p
    · rw [valV_pos (by rw [e]), if_pos e]; rfl
    · rw [valV_neg fun z => e (key_inj z), if_neg e, kvs_some ((List.mem_cons.mp h).resolve_left fun z => e z.symm)]
      rw [show n + 1 + idx r p = n + (idx r p + 1) by omega]
/-! ### few pairs -/
def Box (n m : Int) (p : Int × Int) : Prop := 0 ≤ p.1 ∧ p.1 < n ∧ 0 ≤ p.2 ∧ p.2 < m
theorem box_few {n m : Int} (hn : n ≤ 3) (hm : m ≤ 3) {Ps : List (Int × Int)} (nd : Ps.Nodup) (hb : ∀ p ∈ Ps, Box n m p) : Ps.length ≤ 9 := by
  have h1 : (Ps.map fun p => (3 * p.1 + p.2).toNat).Nodup := by
    rw [List.nodup_iff_pairwise_ne] at nd ⊢
    rw [List.pairwise_map]
    refine nd.imp_of_mem fun {p q} hp hq ne e => ne ?_
    obtain ⟨a1, a2, a3, a4⟩ := hb p hp
    obtain ⟨b1, b2, b3, b4⟩ := hb q hq
    obtain ⟨p1, p2⟩ := p
    obtain ⟨q1, q2⟩ := q
    simp only at a1 a2 a3 a4 b1 b2 b3 b4 e ⊢
    rw [Prod.mk.injEq]; omega
  have h2 := nat_nodup_len _ (List.range 9) h1 fun x hx => by
    obtain ⟨p, hp, rfl⟩ := List.mem_map.mp hx
    obtain ⟨a1, a2, a3, a4⟩ := hb p hp
    exact List.mem_range.mpr (by omega)
  rw [List.length_map, List.length_range] at h2
  exact h2
theorem mem_pm : ∀ {L acc : List PMv} {m : PMv}, m ∈ L.foldl pstep acc → m ∈ acc ∨ m ∈ L
  | [], acc, m, h => .inl h
  | c :: L, acc, m, h => by
    rcases mem_pm (L := L) (acc := pstep acc c) h with h | h
    · unfold pstep at h
      split at h
      · rcases List.mem_append.mp h with h | h
        · exact .inl h
        · exact .inr (by rw [List.mem_singleton.mp h]; exact List.mem_cons_self)
      · exact .inl h
    · exact .inr (List.mem_cons_of_mem _ h)
theorem mem_combs {l1 l2 : List Mv} {m : PMv} (h : m ∈ combs l1 l2) : ∃ a ∈ l1, ∃ b ∈ l2, m = comb a b := by
  obtain ⟨a, ha, h⟩ := List.mem_flatMap.mp h
  obtain ⟨b, hb, rfl⟩ := List.mem_map.mp h
  exact ⟨a, ha, b, hb, rfl⟩
structure MvOk (n : Int) (m : Mv) : Prop where
  e0 : 0 ≤ m.e
  e1 : m.e < n
  nn : ∀ x ∈ m.need, IsNm x
  nb : ∀ x ∈ m.bar, IsNm x
  ln : m.need.length ≤ 100
  lb : m.bar.length ≤ 100
theorem mvs_ok {W : Wd} (ok : OkW W) (sm : SmW W) {s : Int} (hs : 0 ≤ s ∧ s < W.n) {m : Mv} (hm : m ∈ mvs W.steps s) : MvOk W.n m := by
  obtain ⟨l1, l2⟩ := mvs_small sm hm
  rcases List.mem_append.mp hm with hm | hm
  · obtain ⟨t, ht, rfl⟩ := List.mem_map.mp hm
    have k := ok.sok t (List.mem_filter.mp ht).1
    exact ⟨k.e0, k.e1, k.nn, k.nb, l1, l2⟩
  · rw [List.mem_singleton.mp hm]
    exact ⟨hs.1, hs.2, nm_nil, nm_nil, Nat.zero_le _, Nat.zero_le _⟩
structure PmOk (n m : Int) (k : PMv) : Prop where
  box : Box n m k.e
  nn : ∀ x ∈ k.need, IsNm x
  nb : ∀ x ∈ k.bar, IsNm x
  ln : k.need.length ≤ 200
  lb : k.bar.length ≤ 200
  an : lotS k.need = k.need
  ab : lotS k.bar = k.bar
theorem pm_ok {W U : Wd} (ow : OkW W) (ou : OkW U) (sw : SmW W) (su : SmW U) {p : Int × Int} (hp : Box W.n U.n p) {k : PMv} (hk : k ∈ pmoves W U p.1 p.2) : PmOk W.n U.n k := by
  rcases mem_pm hk with h | h
  · cases h
  · obtain ⟨a, ha, b, hb, rfl⟩ := mem_combs h
    have oa := mvs_ok ow sw ⟨hp.1, hp.2.1⟩ ha
    have ob := mvs_ok ou su ⟨hp.2.2.1, hp.2.2.2⟩ hb
    refine ⟨⟨oa.e0, oa.e1, ob.e0, ob.e1⟩, fun x hx => (List.mem_append.mp (mem_lotS.mp hx)).elim (oa.nn x) (ob.nn x), fun x hx => (List.mem_append.mp (mem_lotS.mp hx)).elim (oa.nb x) (ob.nb x), ?_, ?_, lotS_idem _, lotS_idem _⟩
    · refine Nat.le_trans (len_lotS _) ?_
      rw [List.length_append]; have := oa.ln; have := ob.ln; omega
    · refine Nat.le_trans (len_lotS _) ?_
      rw [List.length_append]; have := oa.lb; have := ob.lb; omega
theorem pm_len {W U : Wd} (sw : SmW W) (su : SmW U) (p q : Int) : (pmoves W U p q).length ≤ 25 := by
  refine Nat.le_trans (pstep_len _ _) ?_
  rw [combs_len]
  have h1 := mvs_len W.steps p
  have h2 := mvs_len U.steps q
  have h3 := sw.s4
  have h4 := su.s4
  have := Nat.mul_le_mul (show (mvs W.steps p).length ≤ 5 by omega) (show (mvs U.steps q).length ≤ 5 by omega)
  simp only [List.length_nil]; omega
theorem stOf_len {mv : Int × Int → List PMv} {Ps : List (Int × Int)} (h : ∀ p, (mv p).length ≤ 25) : ∀ k, (stOf mv Ps k).length ≤ 25 * k
  | 0 => Nat.le_refl _
  | k + 1 => by
    rw [stOf_succ, List.length_append]
    have := stOf_len h (Ps := Ps) k
    have h2 : (stepsOf mv Ps k (mv (Ps.getD k (0, 0)))).length ≤ 25 := by unfold stepsOf; rw [List.length_map]; exact h _
    omega
abbrev mvp (W U : Wd) : Int × Int → List PMv := fun p => pmoves W U p.1 p.2
theorem stOf_ok {W U : Wd} (ow : OkW W) (ou : OkW U) (sw : SmW W) (su : SmW U) {Ps : List (Int × Int)} (hb : ∀ p ∈ Ps, Box W.n U.n p) (go : ∀ p ∈ Ps, ∀ m ∈ mvp W U p, m.e ∈ Ps) : ∀ s ∈ stOf (mvp W U) Ps Ps.length, OkS (Ps.length : Nat) s ∧ nrm s = s := by
  intro s hs
  unfold stOf at hs
  obtain ⟨i, hi, hs⟩ := List.mem_flatMap.mp hs
  have hi := List.mem_range.mp hi
  obtain ⟨m, hm, rfl⟩ := List.mem_map.mp hs
  have hp : Ps.getD i (0, 0) ∈ Ps := by
    rw [List.getD_eq_getElem?_getD, List.getElem?_eq_getElem hi]
    exact List.getElem_mem hi
  have o := pm_ok ow ou sw su (hb _ hp) hm
  have l := idx_lt (go _ hp m hm)
  have l1 := o.ln
  have l2 := o.lb
  refine ⟨⟨by show (0 : Int) ≤ (i : Nat); omega, by show ((i : Nat) : Int) < _; omega, by show (0 : Int) ≤ (idx Ps m.e : Nat); omega, by show ((idx Ps m.e : Nat) : Int) < _; omega, o.nn, o.nb, by show m.need.length ≤ 1000; omega, by show m.bar.length ≤ 1000; omega⟩, ?_⟩
  unfold nrm
  show (⟨_, lotS m.need, lotS m.bar, _⟩ : Stp) = _
  rw [o.an, o.ab]
end Kd

namespace Kd
open PySem PySem.Spec PyProof.Rows L2 Hb St Sq Ow En
def PrA (H : Hp) (y : V) (p : Int × Int) : Prop := ∃ b, y = .ref b ∧ H b = some (.tup [.int p.1, .int p.2])
theorem PrA.fix {H H' : Hp} {y : V} {p : Int × Int} (f : Fix H H') (h : PrA H y p) : PrA H' y p := let ⟨b, e, q⟩ := h; ⟨b, e, f _ _ q (by rintro (⟨_, z⟩ | ⟨_, z⟩) <;> cases z)⟩
/-- where the numbering of pairs stands -/
structure PW_ (K : PySem.W.Frag) (H1 : Hp) (pp dd sp : Addr) (n m : Int) (Ps : List (Int × Int)) (ss : List Stp) (H : Hp) : Prop where
  rel : ∀ b o, H1 b = some o → b ≠ pp → b ≠ dd → b ≠ sp → H b = some o
  pa : ∃ ys, H pp = some (.lst ys) ∧ All2 (PrA H) ys Ps
  da : H dd = some (.dT (kvsFrom 0 Ps))
  sa : ∃ zs, H sp = some (.lst zs) ∧ All2 (SP K H) zs ss
  nd : Ps.Nodup
  z : Ps[0]? = some (0, 0)
  box : ∀ p ∈ Ps, Box n m p
section
variable {K : PySem.W.Frag} {H1 H H' : Hp} {pp dd sp : Addr} {n m : Int} {Ps : List (Int × Int)} {ss : List Stp}
theorem PW_.same (h : PW_ K H1 pp dd sp n m Ps ss H) (s : Same H H') : PW_ K H1 pp dd sp n m Ps ss H' := by
  obtain ⟨ys, e, al⟩ := h.pa
  obtain ⟨zs, e2, al2⟩ := h.sa
  exact ⟨fun b o x a1 a2 a3 => s _ _ (h.rel b o x a1 a2 a3), ⟨ys, s _ _ e, al.imp fun _ _ q => q.fix (Fix.of s)⟩, s _ _ h.da, ⟨zs, s _ _ e2, al2.imp fun _ _ q => q.fix (Fix.of s)⟩, h.nd, h.z, h.box⟩
theorem PW_.new (h : PW_ K H1 pp dd sp n m Ps ss H) (ne : pp ≠ sp) {b : Addr} {p : Int × Int} (hb : H b = some (.tup [.int p.1, .int p.2])) (hp : p ∉ Ps) (bx : Box n m p) {ys : List V} (e : H pp = some (.lst ys)) (al : All2 (PrA H) ys Ps) :
    PW_ K H1 pp dd sp n m (Ps ++ [p]) ss (upd (upd H dd (.dT (putK (kvsFrom 0 Ps) (key p) (.int (Ps.length : Nat))))) pp (.lst (ys ++ [.ref b]))) := by
  have n1 : pp ≠ dd := ne_of e h.da (by intro z; cases z)
  obtain ⟨zs, e2, al2⟩ := h.sa
  have n2 : sp ≠ dd := ne_of e2 h.da (by intro z; cases z)
  have e' : upd H dd (.dT (putK (kvsFrom 0 Ps) (key p) (.int (Ps.length : Nat)))) pp = some (.lst ys) := by rw [upd_ne n1]; exact e
  have fx : Fix H (upd (upd H dd (.dT (putK (kvsFrom 0 Ps) (key p) (.int (Ps.length : Nat))))) pp (.lst (ys ++ [.ref b]))) := (Fix.dT h.da).trans (Fix.lst e')
  refine ⟨fun c o x a1 a2 a3 => by rw [upd_ne a1, upd_ne a2]; exact h.rel c o x a1 a2 a3, ⟨_, upd_same, (al.imp fun _ _ q => q.fix fx).app (.cons ⟨b, rfl, fx _ _ hb (by rintro (⟨_, z⟩ | ⟨_, z⟩) <;> cases z)⟩ .nil)⟩, ?_, ⟨zs, ?_, al2.imp fun _ _ q => q.fix fx⟩, ?_, ?_, fun q hq => ?_⟩
  · rw [upd_ne n1.symm, upd_same, putK_new _ (kvs_none hp), kvs_snoc]
    rw [Nat.zero_add]
  · rw [upd_ne ne.symm, upd_ne n2]; exact e2
  · rw [List.nodup_append]
    exact ⟨h.nd, List.nodup_cons.mpr ⟨by simp, List.nodup_nil⟩, fun a ha b' hb' z => hp (by rw [List.mem_singleton.mp hb'] at z; exact z ▸ ha)⟩
  · rw [List.getElem?_append_left (List.getElem?_eq_some_iff.mp h.z).1]; exact h.z
  · rcases List.mem_append.mp hq with hq | hq
    · exact h.box q hq
    · rw [List.mem_singleton.mp hq]; exact bx
theorem PW_.step (h : PW_ K H1 pp dd sp n m Ps ss H) (ne : pp ≠ sp) {v : V} {t : Stp} (hv : SP K H v t) {zs : List V} (e : H sp = some (.lst zs)) (al : All2 (SP K H) zs ss) : PW_ K H1 pp dd sp n m Ps (ss ++ [t]) (upd H sp (.lst (zs ++ [v]))) := by
  obtain ⟨ys, e1, al1⟩ := h.pa
  have n2 : sp ≠ dd := ne_of e h.da (by intro z; cases z)
  have fx : Fix H (upd H sp (.lst (zs ++ [v]))) := Fix.lst e
  exact ⟨fun c o x a1 a2 a3 => by rw [upd_ne a3]; exact h.rel c o x a1 a2 a3, ⟨ys, by rw [upd_ne ne]; exact e1, al1.imp fun _ _ q => q.fix fx⟩, by rw [upd_ne n2.symm]; exact h.da, ⟨_, upd_same, (al.imp fun _ _ q => q.fix fx).app (.cons (hv.fix fx) .nil)⟩, h.nd, h.z, h.box⟩
theorem PW_.fix (h : PW_ K H1 pp dd sp n m Ps ss H) {xs zs : List V} {kk : List (List Key × V)} (e1 : H1 pp = some (.lst xs)) (e2 : H1 dd = some (.dT kk)) (e3 : H1 sp = some (.lst zs)) : Fix H1 H := fun b o e nm =>
  h.rel b o e (fun z => nm (.inl ⟨xs, by rw [z, e1] at e; exact (Option.some.inj e).symm⟩)) (fun z => nm (.inr ⟨kk, by rw [z, e2] at e; exact (Option.some.inj e).symm⟩)) (fun z => nm (.inl ⟨zs, by rw [z, e3] at e; exact (Option.some.inj e).symm⟩))
end
section
variable {P : Program} {w : World} {K : PySem.W.Frag} {mg : Str → Option Value} {base : Heap}
/-! ### paired_wish -/
abbrev s_paired_wish : Stmt := top 26
theorem sc_paired_wish : FnScope ["one", "other", "fewest", "pairs", "numbers", "steps", "at", "need", "bar", "behind", "good", "pair"] ["one", "other", "fewest"] (defScope s_paired_wish) := ⟨rfl, rfl, rfl, by decide +kernel, rfl, by decide +kernel, by decide +kernel⟩
def pairW (W U : Wd) (f : Int) (Ps : List (Int × Int)) : Wd := mkW (Ps.length : Nat) ((Ps.filter fun p => decide (f ≤ (sides W U p : Nat))).map fun p => ((idx Ps p : Nat) : Int)) (stOf (mvp W U) Ps Ps.length)
def spPair (K : PySem.W.Frag) (C : Addr) : Sp := fun vs H Q _ => ∃ (v u : V) (f : Int) (W U : Wd), vs = [v, u, .int f] ∧ WA K C H v W ∧ WA K C H u U ∧ OkW W ∧ OkW U ∧ SmW W ∧ SmW U ∧
  ∀ x Ps H', Same H H' → Closed (mvp W U) Ps → (∀ p ∈ Ps, Box W.n U.n p) → Ps.length ≤ 9 → WA K C H' x (pairW W U f Ps) → Q x H'
theorem ok_pair {f : Addr} {fd : FuncData} (F : Fun K "paired_wish" "paired_wish" s_paired_wish f fd) (C_good_sides : Cl P w K mg base "good_sides" ["one", "other", "pair"] [] 1 (spSides K C_Wish)) (C_paired_moves : Cl P w K mg base "paired_moves" ["one", "other", "pair"] [] 3 (spPMoves K C_Wish)) (M_Wish : Cm P w K mg base "Wish" C_Wish ["self", "states", "good", "steps"] 5 (spInit K C_Wish)) (n_len : mg "len" = none) : FnOk P w K mg base CX0 7 f fd ["one", "other", "fewest"] (spPair K C_Wish) := by
  refine F.ok sc_paired_wish (fun vs H Q E h => ?_) (fun cdv A outer s H vs Q E hr h => ?_)
  · obtain ⟨_, _, _, _, _, rfl, _⟩ := h
    rfl
  · obtain ⟨v, u, f, W, U, rfl, hv, hu, ow, ou, sw, su, qq⟩ := h
    refine ⟨_, (pss_cons (ps_set (i := 3) sc_paired_wish.nd rfl (Or.inl rfl) (pe_lst (pa_cons (pe_tup (pa_cons pe_int (pa_cons pe_int pa_nil))) pa_nil)))
    (pss_cons (ps_set (i := 4) sc_paired_wish.nd rfl (Or.inr rfl) (pe_disp1T (hu_of hr) (pe_tup (pa_cons pe_int (pa_cons pe_int pa_nil))) pe_int))
    (pss_cons (ps_set (i := 5) sc_paired_wish.nd rfl (Or.inl rfl) (pe_lst pa_nil))
    (pss_cons (ps_set (i := 6) sc_paired_wish.nd rfl (Or.inl rfl) pe_int)
    (Evl.pss_cut (ps_while PassesOwn.never (pt_cmpR op_lt (pv 6) (pe_callB call_len_seq (by rfl) n_len PySem.boot_len (pa_cons (pv 3) pa_nil)) (nomark _))
      (Evl.pss_cut (ps_for PassesOwn.never rfl (pi_seq (pe_use C_paired_moves (hr.mono (by decide)) rfl (pa_cons (pv 0) (pa_cons (pv 1) (pa_cons (pe_ix ix_list (pv 3) (pv 6) (fun _ _ => rfl)) pa_nil))))) (pg_tup rfl (pgs_cons (pg_name (i := 7) sc_paired_wish.nd rfl (Or.inl rfl)) (pgs_cons (pg_name (i := 8) sc_paired_wish.nd rfl (Or.inl rfl)) (pgs_cons (pg_name (i := 9) sc_paired_wish.nd rfl (Or.inl rfl)) pgs_nil))))
      (Evl.pss_cut (ps_if (pt_cmp (pc_dnotin (hu_of hr) (pv 9) (pv 4))) (pss_cons (ps_dput (hu_of hr) (pv 4) (pv 9) (pe_callB call_len_seq (by rfl) n_len PySem.boot_len (pa_cons (pv 3) pa_nil)) rfl)
    (pss_one (ps_expr (pe_bm PySem.F.plainAttrs_list PySem.F.slot_list_append PySem.F.type_list_append mt_append (pv 3) (pa_cons (pv 9) pa_nil))))) pss_nil)
    (pss_one (ps_expr (pe_bm PySem.F.plainAttrs_list PySem.F.slot_list_append PySem.F.type_list_append mt_append (pv 5) (pa_cons (pe_tup (pa_cons (pv 6) (pa_cons (pv 7) (pa_cons (pv 8) (pa_cons (pe_dget (hu_of hr) (pv 4) (pv 9) (fun _ _ => rfl)) pa_nil))))) pa_nil))))))
    (pss_one (ps_aug (i := 6) sc_paired_wish.nd rfl (Or.inl rfl) pe_int ip_add))))
    (Evl.pss_cut (ps_setLc (i := 10) (own := [("pair", 11)]) (g := gName 11) (by rfl) sc_paired_wish.nd rfl rfl (sw_true rfl rfl rfl (by decide +kernel)) (pi_seq (pv 3)) (blkOk_by (N := ["one", "other", "fewest", "pairs", "numbers", "steps", "at", "need", "bar", "behind", "good", "pair"]) (sc := defScope s_paired_wish) (by decide +kernel)) (fun _ _ _ _ _ => pg_name (i := 11) sc_paired_wish.nd rfl (Or.inl rfl)) (fun _ _ _ _ _ => pts_one (pt_cmpR op_ge (pe_use C_good_sides (hr.mono (by decide)) rfl (pa_cons (pv 0) (pa_cons (pv 1) (pa_cons (pv 11) pa_nil)))) (pv 2) (nomark _))) (fun _ _ _ _ _ => pe_dget (hu_of hr) (pv 4) (pv 11) (fun _ _ => rfl)))
    (pss_one (ps_ret (pe_new M_Wish (hr.mono (by decide)) rfl (pa_cons (pe_callB call_len_seq (by rfl) n_len PySem.boot_len (pa_cons (pv 3) pa_nil)) (pa_cons (pv 10) (pa_cons (pv 5) pa_nil)))))))))))), ?_⟩
    have wn := ow.n1
    have un := ou.n1
    have w3 := sw.n3
    have u3 := su.n3
    refine ⟨by show 2 ≤ sizeLine; decide, fun t0 k0 => ⟨by show 1 ≤ sizeLine; decide, fun pp kpp => ?_⟩⟩
    have a0 := same_new k0 (.tup [.int 0, .int 0])
    have a1 := same_new kpp (.lst [.ref t0])
    have et0 := a1 _ _ (show (upd H t0 (.tup [.int 0, .int 0])) t0 = _ from upd_same)
    have epp : upd (upd H t0 (.tup [.int 0, .int 0])) pp (.lst [.ref t0]) pp = some (.lst [.ref t0]) := upd_same
    have hp0 : H pp = none := gone a0 kpp
    have s1 : Same H (upd (upd H t0 (.tup [.int 0, .int 0])) pp (.lst [.ref t0])) := a0.trans a1
    generalize upd (upd H t0 (.tup [.int 0, .int 0])) pp (.lst [.ref t0]) = G1 at et0 epp s1 ⊢
    refine fun dd kdd => ⟨by show 2 ≤ sizeLine; decide, fun t1 k1 => ?_⟩
    have hd0 : H dd = none := gone s1 kdd
    have a2 := same_new kdd (.dT [])
    have a3 := same_new k1 (.tup [.int 0, .int 0])
    have edd := a3 _ _ (show (upd G1 dd (.dT [])) dd = _ from upd_same)
    refine ⟨edd, key (0, 0), t1, rfl, upd_same, ?_⟩
    have et1 : upd (upd G1 dd (.dT [])) t1 (.tup [.int 0, .int 0]) t1 = some (.tup [.int 0, .int 0]) := upd_same
    have s2 : Same G1 (upd (upd G1 dd (.dT [])) t1 (.tup [.int 0, .int 0])) := a2.trans a3
    generalize upd (upd G1 dd (.dT [])) t1 (.tup [.int 0, .int 0]) = G2 at edd et1 s2 ⊢
    have ndp : pp ≠ dd := ne_of (s2 _ _ epp) edd (by intro z; cases z)
    have s3 : Same H (upd G2 dd (.dT [(key (0, 0), .int 0)])) := fun b o e => by
      rw [upd_ne (ne_of_none e hd0)]; exact s2 _ _ (s1 _ _ e)
    have epp3 : upd G2 dd (.dT [(key (0, 0), .int 0)]) pp = some (.lst [.ref t0]) := by rw [upd_ne ndp]; exact s2 _ _ epp
    have et3 : upd G2 dd (.dT [(key (0, 0), .int 0)]) t0 = some (.tup [.int 0, .int 0]) := by rw [upd_ne (ne_of (s2 _ _ et0) edd (by intro z; cases z))]; exact s2 _ _ et0
    have edd3 : upd G2 dd (.dT [(key (0, 0), .int 0)]) dd = some (.dT [(key (0, 0), .int 0)]) := upd_same
    generalize upd G2 dd (.dT [(key (0, 0), .int 0)]) = G3 at s3 epp3 et3 edd3 ⊢
    refine ⟨Nat.zero_le _, fun sp ksp => ?_⟩
    have a4 := same_new ksp (.lst [])
    have hs0 : H sp = none := gone s3 ksp
    have esp : upd G3 sp (.lst []) sp = some (.lst []) := upd_same
    have npp : pp ≠ sp := fun z => by rw [z] at epp3; rw [epp3] at ksp; cases ksp
    have s4 : Same H (upd G3 sp (.lst [])) := s3.trans a4
    have epp4 := a4 _ _ epp3
    have edd4 := a4 _ _ edd3
    have et4 := a4 _ _ et3
    generalize upd G3 sp (.lst []) = H1 at s4 esp epp4 edd4 et4 ⊢
    have start : PW_ K H1 pp dd sp W.n U.n [(0, 0)] [] H1 := ⟨fun _ _ e _ _ _ => e, ⟨_, epp4, .cons ⟨t0, rfl, et4⟩ .nil⟩, edd4, ⟨_, esp, .nil⟩, List.nodup_cons.mpr ⟨by simp, List.nodup_nil⟩, rfl, fun p hp => by
      rw [List.mem_singleton.mp hp]; exact ⟨by decide, by show (0 : Int) < W.n; omega, by decide, by show (0 : Int) < U.n; omega⟩⟩
    let St : Nat → List (Int × Int) → L2.St → Prop := fun k Ps σ => ∃ o7 o8 o9 o10 o11, σ = [some v, some u, some (.int f), some (.ref pp), some (.ref dd), some (.ref sp), some (.int (k : Nat)), o7, o8, o9, o10, o11]
    let At : Nat → List (Int × Int) → L2.St → Hp → Prop := fun k Ps σ H' => St k Ps σ ∧ k ≤ Ps.length ∧ PW_ K H1 pp dd sp W.n U.n Ps (stOf (mvp W U) Ps k) H' ∧ ∀ i p, i < k → Ps[i]? = some p → ∀ m ∈ mvp W U p, m.e ∈ Ps
    refine ⟨fun σ H' => ∃ Ps, At Ps.length Ps σ H', ?_, ?_⟩
    · refine ⟨fun m σ H' => ∃ k Ps, m = 10 - k ∧ At k Ps σ H', ⟨10, 0, [(0, 0)], rfl, ⟨none, none, none, none, none, rfl⟩, Nat.zero_le _, start, fun i p hi => absurd hi (Nat.not_lt_zero i)⟩, ?_⟩
      rintro m σ H2 ⟨k, Ps, rfl, ⟨o7, o8, o9, o10, o11, rfl⟩, hk, pw, go⟩
      obtain ⟨ys, ey, aly⟩ := pw.pa
      have few := box_few w3 u3 pw.nd pw.box
      refine ⟨_, rfl, _, rfl, pp, ys, rfl, .inl (SqL.of ey), _, _, rfl, rfl, _, rfl, ?_⟩
      rw [aly.len]
      by_cases c : k < Ps.length
      · rw [decide_eq_true (show ((k : Nat) : Int) < (Ps.length : Nat) by omega)]
        refine iteT ⟨fun σ H' => ∃ Ps, At (k + 1) Ps σ H' ∧ k < 10, fun σ' H' p => ?_, ?_⟩
        · obtain ⟨Ps', p, _⟩ := p
          exact ⟨10 - (k + 1), by omega, k + 1, Ps', rfl, p⟩
        obtain ⟨p, hp⟩ : ∃ p, Ps[k]? = some p := ⟨Ps[k], List.getElem?_eq_getElem c⟩
        obtain ⟨yk, eyk, pb, rfl, hpb⟩ := (show ∃ y, ys[k]? = some y ∧ PrA H2 y p from by
          have hl : k < ys.length := by rw [aly.len]; exact c
          obtain ⟨q, eq, r⟩ := aly.get (List.getElem?_eq_getElem hl)
          rw [hp] at eq
          cases eq
          exact ⟨_, List.getElem?_eq_getElem hl, r⟩)
        have fx2 : Fix H1 H2 := pw.fix epp4 edd4 esp
        have bxp := pw.box p (List.mem_of_getElem? hp)
        refine ⟨fun σ H' => ∃ Qs, St k (Ps ++ Qs) σ ∧ PW_ K H1 pp dd sp W.n U.n (Ps ++ Qs) (stOf (mvp W U) Ps k ++ stepsOf (mvp W U) (Ps ++ Qs) k (mvp W U p)) H' ∧ ∀ m ∈ mvp W U p, m.e ∈ Ps ++ Qs, ?_, ?_⟩
        · refine ⟨_, rfl, _, rfl, _, rfl, _, rfl, pp, ys, (k : Nat), .ref pb, rfl, rfl, SqL.of ey, atI_nat eyk, v, u, pb, W, U, p.1, p.2, rfl, (hv.same s4).fix fx2, (hu.same s4).fix fx2, hpb, sw, su, fun pl xs H3 s3' f3 e3 al3 => ?_⟩
          have pw3 := pw.same s3'
          obtain ⟨ys3, ey3, aly3⟩ := pw3.pa
          obtain ⟨zs3, ez3, alz3⟩ := pw3.sa
          have npl : pl ≠ pp := fun z => by rw [z, ey] at f3; cases f3
          have npd : pl ≠ dd := fun z => by rw [z, pw.da] at f3; cases f3
          have nps : pl ≠ sp := fun z => by obtain ⟨_, ez, _⟩ := pw.sa; rw [z, ez] at f3; cases f3
          refine ⟨pl, _, rfl, SqX.lst e3, fun J S Wk st => ?_⟩
          refine for_sq Wk (fun j σ H' => ∃ Qs, St k (Ps ++ Qs) σ ∧ PW_ K H3 pp dd sp W.n U.n (Ps ++ Qs) (stOf (mvp W U) Ps k ++ stepsOf (mvp W U) (Ps ++ Qs) k ((mvp W U p).take j)) H' ∧ ∀ m ∈ (mvp W U p).take j, m.e ∈ Ps ++ Qs)
            ⟨[], ⟨o7, o8, o9, o10, o11, rfl⟩, ?_, fun m hm => by cases hm⟩ (fun j σ H' pv => Wk.keep (fun o e => let ⟨_, _, h, _⟩ := pv; h.rel _ _ e npl npd nps) st) ?_ ?_
          · rw [List.append_nil]
            show PW_ K H3 pp dd sp W.n U.n Ps (stOf (mvp W U) Ps k ++ []) H3
            rw [List.append_nil]
            exact ⟨fun _ _ e _ _ _ => e, pw3.pa, pw3.da, pw3.sa, pw3.nd, pw3.z, pw3.box⟩
          · rintro j σ H4 y ey4 ⟨Qs, ⟨q7, q8, q9, q10, q11, rfl⟩, pw4, in4⟩
            have fx4 : Fix H3 H4 := pw4.fix ey3 pw3.da ez3
            obtain ⟨m, em, hm⟩ := al3.get ey4
            obtain ⟨ya, yn, yr, yb, rfl, h0, h1, h2, h3⟩ := hm.fix fx4
            have mok := pm_ok ow ou sw su bxp (at_mem em)
            refine ⟨ya, _, rfl, h0, rfl, _, _, rfl, _, _, rfl, _, _, rfl, rfl, ?_⟩
            refine ⟨fun σ H' => σ = [some v, some u, some (.int f), some (.ref pp), some (.ref dd), some (.ref sp), some (.int (k : Nat)), some yn, some yr, some (.ref yb), q10, q11] ∧ Fix H4 H' ∧ ∃ Qs', PW_ K H3 pp dd sp W.n U.n (Ps ++ Qs') (stOf (mvp W U) Ps k ++ stepsOf (mvp W U) (Ps ++ Qs') k ((mvp W U p).take j)) H' ∧ (∀ m' ∈ (mvp W U p).take j, m'.e ∈ Ps ++ Qs') ∧ m.e ∈ Ps ++ Qs', ?_, ?_⟩
            · refine ⟨_, rfl, _, rfl, dd, _, rfl, DGet.t (k := key m.e) pw4.da h3, _, rfl, ?_⟩
              by_cases mem : m.e ∈ Ps ++ Qs
              · rw [kvs_some mem]
                exact iteF ⟨rfl, Fix.refl _, Qs, pw4, in4, mem⟩
              · rw [kvs_none mem]
                obtain ⟨ys4, ey4', al4⟩ := pw4.pa
                have few4 := box_few w3 u3 pw4.nd pw4.box
                refine iteT ⟨_, rfl, pp, ys4, rfl, .inl (SqL.of ey4'), _, rfl, _, rfl, dd, _, rfl, DPut.t (k := key m.e) pw4.da h3 (by rw [kvs_len, sizeLine_eq]; omega), ?_⟩
                have n1 : pp ≠ dd := ne_of ey4' pw4.da (by intro z; cases z)
                have e5 : upd H4 dd (.dT (putK (kvsFrom 0 (Ps ++ Qs)) (key m.e) (.int (ys4.length : Nat)))) pp = some (.lst ys4) := by rw [upd_ne n1]; exact ey4'
                refine ⟨_, rfl, .inl ⟨rfl, _, SqL.of e5⟩, _, rfl, pp, _, _, rfl, rfl, e5, by rw [al4.len, sizeLine_eq]; omega, rfl, (Fix.dT pw4.da).trans (Fix.lst e5), Qs ++ [m.e], ?_, fun m' hm' => by rw [← List.append_assoc]; exact List.mem_append_left _ (in4 m' hm'), by rw [← List.append_assoc]; exact List.mem_append_right _ (List.mem_singleton.mpr rfl)⟩
                rw [← List.append_assoc, stepsOf_app in4, al4.len]
                exact pw4.new npp h3 mem mok.box ey4' al4
            rintro σ H5 ⟨rfl, fx5, Qs', pw5, in5, me⟩
            obtain ⟨zs, ez, alz⟩ := pw5.sa
            have h35 : H5 yb = some (.tup [.int m.e.1, .int m.e.2]) := fx5 _ _ h3 (by rintro (⟨_, z⟩ | ⟨_, z⟩) <;> cases z)
            have zl : zs.length < sizeLine := by
              have l0 := stOf_len (mv := mvp W U) (Ps := Ps) (fun p => pm_len sw su p.1 p.2) k
              have l1 : (stepsOf (mvp W U) (Ps ++ Qs') k ((mvp W U p).take j)).length ≤ 25 := by
                unfold stepsOf
                rw [List.length_map, List.length_take]
                exact Nat.le_trans (Nat.min_le_right _ _) (pm_len sw su p.1 p.2)
              rw [alz.len, List.length_append, sizeLine_eq]; omega
            refine ⟨_, rfl, .inl ⟨rfl, _, SqL.of ez⟩, _, rfl, _, rfl, _, rfl, _, rfl, _, rfl, dd, _, rfl, (kvs_some me) ▸ DGet.t (k := key m.e) pw5.da h35, by show 4 ≤ sizeLine; decide, fun t kt => ?_⟩
            have s6 := same_new kt (.tup [.int (k : Nat), yn, yr, .int ((0 + idx (Ps ++ Qs') m.e : Nat) : Int)])
            have ez6 := s6 _ _ ez
            refine ⟨sp, _, _, rfl, rfl, ez6, zl, Qs', ⟨_, _, _, _, _, rfl⟩, ?_, fun m' hm' => ?_⟩
            · have tk : stepsOf (mvp W U) (Ps ++ Qs') k ((mvp W U p).take (j + 1)) = stepsOf (mvp W U) (Ps ++ Qs') k ((mvp W U p).take j) ++ [⟨(k : Nat), m.need, m.bar, ((idx (Ps ++ Qs') m.e : Nat) : Int)⟩] := by
                unfold stepsOf
                rw [List.take_add_one, em, List.map_append]; rfl
              rw [tk, ← List.append_assoc]
              refine (pw5.same s6).step npp ⟨t, yn, yr, rfl, SqT.of ?_, (h1.fix fx5).fix (Fix.of s6), (h2.fix fx5).fix (Fix.of s6)⟩ ez6 (alz.imp fun _ _ q => q.fix (Fix.of s6))
              rw [upd_same, Nat.zero_add]
            · rw [List.take_add_one, em] at hm'
              rcases List.mem_append.mp hm' with h | h
              · exact in5 m' h
              · rw [List.mem_singleton.mp h]; exact me
          · rintro σ H4 ⟨Qs, st4, pw4, in4⟩
            rw [al3.len, List.take_length] at pw4 in4
            exact ⟨Qs, st4, ⟨fun b o e b1 b2 b3 => pw4.rel _ _ (s3' _ _ (pw.rel b o e b1 b2 b3)) b1 b2 b3, pw4.pa, pw4.da, pw4.sa, pw4.nd, pw4.z, pw4.box⟩, in4⟩
        rintro σ H4 ⟨Qs, ⟨q7, q8, q9, q10, q11, rfl⟩, pw4, in4⟩
        refine ⟨_, rfl, _, _, rfl, rfl, Ps ++ Qs, ⟨⟨q7, q8, q9, q10, q11, ?_⟩, by rw [List.length_append]; omega, ?_, ?_⟩, by omega⟩
        · have : ((k + 1 : Nat) : Int) = (k : Nat) + 1 := by omega
          rw [this]; rfl
        · have eg : (Ps ++ Qs).getD k (0, 0) = p := by rw [List.getD_eq_getElem?_getD, List.getElem?_append_left c, hp]; rfl
          rw [stOf_succ, eg, stOf_app (by omega) go]
          exact pw4
        · intro i p' hi hp' m hm
          by_cases e : i = k
          · subst e
            rw [List.getElem?_append_left c, hp] at hp'
            cases hp'
            exact in4 m hm
          · rw [List.getElem?_append_left (by omega)] at hp'
            exact List.mem_append_left _ (go i p' (by omega) hp' m hm)
      · rw [decide_eq_false (show ¬ ((k : Nat) : Int) < (Ps.length : Nat) by omega)]
        obtain rfl : k = Ps.length := by omega
        exact iteF ⟨Ps, ⟨o7, o8, o9, o10, o11, rfl⟩, Nat.le_refl _, pw, go⟩
    rintro σ H2 ⟨Ps, ⟨o7, o8, o9, o10, o11, rfl⟩, _, pw, go⟩
    have few := box_few w3 u3 pw.nd pw.box
    have go' : ∀ p ∈ Ps, ∀ m ∈ mvp W U p, m.e ∈ Ps := fun p hp => by
      obtain ⟨i, hi, e⟩ := List.getElem_of_mem hp
      exact go i p hi (by rw [List.getElem?_eq_getElem hi, e])
    have fx2 : Fix H1 H2 := pw.fix epp4 edd4 esp
    obtain ⟨ys, ey, aly⟩ := pw.pa
    refine ⟨fun σ H' => ∃ D o, σ = [some v, some u, some (.int f), some (.ref pp), some (.ref dd), some (.ref sp), some (.int (Ps.length : Nat)), o7, o8, o9, some (.ref D), o] ∧ Same H2 H' ∧ H' D = some (.lst (((Ps.filter fun p => decide (f ≤ (sides W U p : Nat))).map fun p => ((idx Ps p : Nat) : Int)).map V.int)), ?_, ?_⟩
    · refine ⟨_, rfl, pp, _, rfl, SqX.lst ey, fun J S Wk s0 D hD => ?_⟩
      refine lc_mf (ds := Ps) Wk (fun p => decide (f ≤ (sides W U p : Nat))) (fun _ y p => y = .int ((idx Ps p : Nat) : Int)) s0 hD aly.len (fun i y d H' ey' ed s m => ?_) (fun H' xs s e al => ⟨D, _, rfl, s, ?_⟩)
      · obtain ⟨d', ed', hd⟩ := aly.get ey'
        obtain rfl : d' = d := Option.some.inj (ed'.symm.trans ed)
        obtain ⟨b, rfl, hb⟩ := hd.fix (Fix.of s)
        refine ⟨rfl, _, rfl, _, rfl, _, rfl, v, u, b, W, U, d', rfl, ((hv.same s4).fix fx2).same s, ((hu.same s4).fix fx2).same s, hb, fun H3 s3 => ⟨_, rfl, _, _, rfl, rfl, _, rfl, ?_⟩⟩
        cases c : decide (f ≤ (sides W U d' : Nat)) with
        | true =>
          refine iteT ⟨_, rfl, _, rfl, dd, _, rfl, (kvs_some (at_mem ed)) ▸ DGet.t (k := key d') (s3 _ _ (s _ _ pw.da)) (s3 _ _ hb), ?_⟩
          exact mf_yes m hD (fun _ _ _ _ _ h => h) ed (by omega) s3 c (by rw [Nat.zero_add])
        | false => exact iteF (mf_no m (fun _ _ _ _ _ h => h) ed s3 c)
      · rw [e, al.map_eq (f := fun p => V.int ((idx Ps p : Nat) : Int)) fun _ _ h => h, List.map_map]; rfl
    rintro σ H3 ⟨D, o, rfl, s3', e3⟩
    obtain ⟨zs, ez, alz⟩ := (pw.same s3').sa
    have ok := stOf_ok ow ou sw su pw.box go'
    have l0 := stOf_len (mv := mvp W U) (Ps := Ps) (fun p => pm_len sw su p.1 p.2) Ps.length
    refine ⟨_, rfl, pp, ys, rfl, .inl (SqL.of (s3' _ _ ey)), _, rfl, _, rfl, ?_⟩
    have pl : 0 < Ps.length := (List.getElem?_eq_some_iff.mp pw.z).1
    rw [aly.len]
    refine new_wish (gs := (Ps.filter fun p => decide (f ≤ (sides W U p : Nat))).map fun p => ((idx Ps p : Nat) : Int)) (ss := stOf (mvp W U) Ps Ps.length) rfl (by omega) (SqX.lst e3) ?_ (fun g hg => ?_) (SqX.lst ez) (alz.imp fun _ _ q => q.si) (by omega) (fun s hs => (ok s hs).1) fun x H4 s5 hw => ?_
    · rw [List.length_map]
      have := List.length_filter_le (fun p => decide (f ≤ (sides W U p : Nat))) Ps
      omega
    · obtain ⟨p, hp, rfl⟩ := List.mem_map.mp hg
      have := idx_lt (List.mem_filter.mp hp).1
      omega
    · refine qq (.ref x) Ps H4 (fun b o e => s5 _ _ (s3' _ _ (pw.rel b o (s4 _ _ e) (ne_of_none e hp0) (ne_of_none e hd0) (ne_of_none e hs0)))) ⟨pw.nd, pw.z, go'⟩ pw.box few hw
/-! ### wish_both, wish_either -/
abbrev s_wish_both : Stmt := top 24
theorem sc_wish_both : FnScope ["one", "other"] ["one", "other"] (defScope s_wish_both) := ⟨rfl, rfl, rfl, by decide +kernel, rfl, by decide +kernel, by decide +kernel⟩
def spBoth (K : PySem.W.Frag) (C : Addr) : Sp := fun vs H Q _ => ∃ (v u : V) (W U : Wd), vs = [v, u] ∧ WA K C H v W ∧ WA K C H u U ∧ OkW W ∧ OkW U ∧ SmW W ∧ SmW U ∧
  ∀ x Ps H', Same H H' → Closed (mvp W U) Ps → (∀ p ∈ Ps, Box W.n U.n p) → Ps.length ≤ 9 → WA K C H' x (pairW W U 2 Ps) → Q x H'
theorem ok_both {f : Addr} {fd : FuncData} (F : Fun K "wish_both" "wish_both" s_wish_both f fd) (C_paired_wish : Cl P w K mg base "paired_wish" ["one", "other", "fewest"] [] 7 (spPair K C_Wish)) : FnOk P w K mg base CX0 8 f fd ["one", "other"] (spBoth K C_Wish) := by
  refine F.ok sc_wish_both (fun vs H Q E h => ?_) (fun cdv A outer s H vs Q E hr h => ?_)
  · obtain ⟨_, _, _, _, rfl, _⟩ := h
    rfl
  · obtain ⟨v, u, W, U, rfl, hv, hu, ow, ou, sw, su, qq⟩ := h
    refine ⟨_, (pss_one (ps_ret (pe_use C_paired_wish (hr.mono (by decide)) rfl (pa_cons (pv 0) (pa_cons (pv 1) (pa_cons pe_int pa_nil)))))), ?_⟩
    exact ⟨_, rfl, _, rfl, v, u, 2, W, U, rfl, hv, hu, ow, ou, sw, su, qq⟩
abbrev s_wish_either : Stmt := top 25
theorem sc_wish_either : FnScope ["one", "other"] ["one", "other"] (defScope s_wish_either) := ⟨rfl, rfl, rfl, by decide +kernel, rfl, by decide +kernel, by decide +kernel⟩
def spEither (K : PySem.W.Frag) (C : Addr) : Sp := fun vs H Q _ => ∃ (v u : V) (W U : Wd), vs = [v, u] ∧ WA K C H v W ∧ WA K C H u U ∧ OkW W ∧ OkW U ∧ SmW W ∧ SmW U ∧
  ∀ x Ps H', Same H H' → Closed (mvp W U) Ps → (∀ p ∈ Ps, Box W.n U.n p) → Ps.length ≤ 9 → WA K C H' x (pairW W U 1 Ps) → Q x H'
theorem ok_either {f : Addr} {fd : FuncData} (F : Fun K "wish_either" "wish_either" s_wish_either f fd) (C_paired_wish : Cl P w K mg base "paired_wish" ["one", "other", "fewest"] [] 7 (spPair K C_Wish)) : FnOk P w K mg base CX0 8 f fd ["one", "other"] (spEither K C_Wish) := by
  refine F.ok sc_wish_either (fun vs H Q E h => ?_) (fun cdv A outer s H vs Q E hr h => ?_)
  · obtain ⟨_, _, _, _, rfl, _⟩ := h
    rfl
  · obtain ⟨v, u, W, U, rfl, hv, hu, ow, ou, sw, su, qq⟩ := h
    refine ⟨_, (pss_one (ps_ret (pe_use C_paired_wish (hr.mono (by decide)) rfl (pa_cons (pv 0) (pa_cons (pv 1) (pa_cons pe_int pa_nil)))))), ?_⟩
    exact ⟨_, rfl, _, rfl, v, u, 1, W, U, rfl, hv, hu, ow, ou, sw, su, qq⟩
end
end Kd

namespace Kd
open PySem PySem.Spec PyProof.Rows L2 Hb St Sq Ow En
local macro_rules | `(tactic| walk_at "sd") => `(tactic| (first
  | decide
  | exact ⟨by decide, by decide⟩
  | exact ⟨by decide, by decide, by decide⟩
  | exact Or.inl ⟨by decide, by decide⟩
  | exact Or.inr ⟨by decide, by decide⟩
  | exact divw (by decide) (by decide)
  | exact divw (by omega) (by omega)
  | exact Or.inl ⟨by omega, by omega⟩
  | exact Or.inr ⟨by omega, by omega⟩
  | (show (0 : Int) < _; omega)))
local macro_rules | `(tactic| walk_at "sq") => `(tactic| (first | exact SqT.of (by assumption) | exact SqL.of (by assumption) | exact SqL.of upd_same | assumption))
local macro_rules | `(tactic| walk_at "rd") => `(tactic| repeat (first
  | refine ⟨_, rfl, ?_⟩
  | refine ⟨_, _, rfl, rfl, (by walk_at "sd"), ?_⟩
  | refine ⟨_, _, rfl, rfl, ?_⟩
  | refine ⟨_, _, _, _, rfl, rfl, (by walk_at "sq"), rfl, ?_⟩
  | refine ⟨_, _, _, _, rfl, rfl, (by first | assumption | exact upd_same), rfl, ?_⟩
  | refine ⟨_, _, rfl, Or.inl (by walk_at "sq"), ?_⟩
  | refine ⟨_, _, rfl, ?_⟩
  | refine Or.inl ⟨_, rfl, ?_⟩
  | refine ⟨rfl, ?_⟩))
section
variable {P : Program} {w : World} {K : PySem.W.Frag} {mg : Str → Option Value} {base : Heap}
def BoxAt (H : Hp) (p : Addr) : Prop := ∃ g s : Int, H p = some (.lst [.int g, .int s]) ∧ 0 ≤ g ∧ (0 ≤ s ∧ s < 2 ^ 40)
theorem BoxAt.same {H H' : Hp} {p : Addr} (s : Same H H') (h : BoxAt H p) : BoxAt H' p := let ⟨g, t, e, r⟩ := h; ⟨g, t, s _ _ e, r⟩
theorem BoxAt.fix {H H' : Hp} {p : Addr} (b : BoxAt H p) (k : Kept p H H') : Fix H H' := let ⟨_, _, e, _⟩ := b; Fix.kept e k
/-! ### _law_take -/
abbrev s__law_take : Stmt := top 33
theorem sc__law_take : FnScope ["box", "many", "digit", "raw"] ["box", "many"] (defScope s__law_take) := ⟨rfl, rfl, rfl, by decide +kernel, rfl, by decide +kernel, by decide +kernel⟩
def spTake : Sp := fun vs H Q _ => ∃ (p : Addr) (many : Int), vs = [.ref p, .int many] ∧ (1 ≤ many ∧ many < 2 ^ 30) ∧ BoxAt H p ∧ ∀ d H', 0 ≤ d → d < many → Kept p H H' → BoxAt H' p → Q (.int d) H'
theorem ok_take {f : Addr} {fd : FuncData} (F : Fun K "_law_take" "_law_take" s__law_take f fd) (n_int : mg "int" = none) : FnOk P w K mg base CX0 1 f fd ["box", "many"] spTake := by
  refine F.ok sc__law_take (fun vs H Q E h => ?_) (fun cdv A outer s H vs Q E hr h => ?_)
  · obtain ⟨_, _, rfl, _⟩ := h
    rfl
  · obtain ⟨p, many, rfl, hm, ⟨g, s, hp, g0, s0⟩, q⟩ := h
    refine ⟨_, (Evl.pss_cut (ps_if (pt_cmpR op_gt (pe_ix ix_list (pv 0) pe_int (fun _ _ => rfl)) pe_int (nomark _)) (pss_cons (ps_set (i := 2) sc__law_take.nd rfl (Or.inl rfl) (pe_op op_mod (pe_callTy call_int1 (by rfl) n_int (by decide +kernel) (pa_cons (pe_ix ix_list (pv 0) pe_int (fun _ _ => rfl)) pa_nil)) (pv 1)))
    (pss_cons (ps_asg (pe_op op_fdivW (pe_ix ix_list (pv 0) pe_int (fun _ _ => rfl)) (pv 1)) (pg_sub (pv 0) pe_int set_list))
    (pss_one (ps_ret (pv 2))))) pss_nil)
    (pss_cons (ps_set (i := 3) sc__law_take.nd rfl (Or.inl rfl) (pe_op op_mod (pe_callTy call_int1 (by rfl) n_int (by decide +kernel) (pa_cons (pe_op op_add (pe_op op_mul (pe_ix ix_list (pv 0) pe_int (fun _ _ => rfl)) pe_int) pe_int) pa_nil)) pe_int))
    (pss_cons (ps_asg (pe_op op_add (pe_op op_mod (pe_callTy call_int1 (by rfl) n_int (by decide +kernel) (pa_cons (pe_op op_add (pe_op op_mul (pv 3) pe_int) pe_int) pa_nil)) pe_int) pe_int) (pg_sub (pv 0) pe_int set_list))
    (pss_one (ps_ret (pe_op op_mod (pe_callTy call_int1 (by rfl) n_int (by decide +kernel) (pa_cons (pe_op op_fdivW (pe_op op_add (pe_op op_mul (pv 3) pe_int) (pe_ix ix_list (pv 0) pe_int (fun _ _ => rfl))) pe_int) pa_nil)) (pv 1))))))), ?_⟩
    refine ⟨fun σ H' => σ = [some (.ref p), some (.int many), none, none] ∧ H' = H, ?_, ?_⟩
    · walk_at "rd"
      refine iteD (fun c => ?_) (fun c => ?_)
      · walk_at "rd"
        exact q _ _ (Int.emod_nonneg _ (by omega)) (Int.emod_lt_of_pos _ (by omega)) kept_upd ⟨_, _, upd_same, Int.ediv_nonneg g0 (by omega), s0⟩
      · exact ⟨rfl, rfl⟩
    rintro σ H' ⟨rfl, rfl⟩
    walk_at "rd"
    refine q _ _ (Int.emod_nonneg _ (by omega)) (Int.emod_lt_of_pos _ (by omega)) kept_upd ⟨_, _, upd_same, g0, ⟨?_, ?_⟩⟩ <;> omega
/-! ### _law_box -/
abbrev s__law_box : Stmt := top 32
theorem sc__law_box : FnScope ["script", "k", "cell", "great"] ["script", "k"] (defScope s__law_box) := ⟨rfl, rfl, rfl, by decide +kernel, rfl, by decide +kernel, by decide +kernel⟩
def spBox (K : PySem.W.Frag) : Sp := fun vs H Q _ => ∃ (a : Addr) (ns : List Int) (k : Int), vs = [.ref a, .int k] ∧ (0 ≤ k ∧ k ≤ 100) ∧ SqL K H a (ns.map V.int) ∧ ns.length ≤ 63 ∧ ∀ p H', H p = none → Same H H' → BoxAt H' p → Q (.ref p) H'
theorem at_int {ns : List Int} {k : Int} (h0 : 0 ≤ k) (h : k < (ns.length : Int)) : ∃ v : Int, atI (ns.map V.int) k = some (.int v) := by
  have hk : k.toNat < ns.length := by omega
  have ek : k = ((k.toNat : Nat) : Int) := by omega
  have q : atI (ns.map V.int) ((k.toNat : Nat) : Int) = some (.int ns[k.toNat]) := atI_nat (by rw [List.getElem?_map, List.getElem?_eq_getElem hk] <;> rfl)
  rw [← ek] at q
  exact ⟨_, q⟩
theorem abs_nn (i : Int) : 0 ≤ (if i < 0 then -i else i) := by
  by_cases h : i < 0
  · rw [if_pos h]; omega
  · rw [if_neg h]; omega
theorem ok_box {f : Addr} {fd : FuncData} (F : Fun K "_law_box" "_law_box" s__law_box f fd) (n_abs : mg "abs" = none) (n_int : mg "int" = none) (n_len : mg "len" = none) : FnOk P w K mg base CX0 1 f fd ["script", "k"] (spBox K) := by
  refine F.ok sc__law_box (fun vs H Q E h => ?_) (fun cdv A outer s H vs Q E hr h => ?_)
  · obtain ⟨_, _, _, rfl, _⟩ := h
    rfl
  · obtain ⟨a, ns, k, rfl, hk, hS, hl, q⟩ := h
    refine ⟨_, (pss_cons (ps_set (i := 2) sc__law_box.nd rfl (Or.inl rfl) (pe_op op_add (pe_op op_mul pe_int (pv 1)) pe_int))
    (Evl.pss_cut (ps_if (pt_cmpR op_lt (pv 1) (pe_callB call_len_seq (by rfl) n_len PySem.boot_len (pa_cons (pv 0) pa_nil)) (nomark _)) (pss_one (ps_set (i := 2) sc__law_box.nd rfl (Or.inl rfl) (pe_callB call_abs (by rfl) n_abs (by decide +kernel) (pa_cons (pe_callTy call_int1 (by rfl) n_int (by decide +kernel) (pa_cons (pe_ix ix_list (pv 0) (pv 1) (fun _ _ => rfl)) pa_nil)) pa_nil)))) (pss_one (ps_if (pt_cmpR op_gt (pe_callB call_len_seq (by rfl) n_len PySem.boot_len (pa_cons (pv 0) pa_nil)) pe_int (nomark _)) (pss_one (ps_set (i := 2) sc__law_box.nd rfl (Or.inl rfl) (pe_op op_add (pv 2) (pe_op op_mul (pe_op op_mod (pe_callTy call_int1 (by rfl) n_int (by decide +kernel) (pa_cons (pe_callB call_abs (by rfl) n_abs (by decide +kernel) (pa_cons (pe_callTy call_int1 (by rfl) n_int (by decide +kernel) (pa_cons (pe_ix ix_list (pv 0) (pe_op op_mod (pe_callTy call_int1 (by rfl) n_int (by decide +kernel) (pa_cons (pv 1) pa_nil)) (pe_callB call_len_seq (by rfl) n_len PySem.boot_len (pa_cons (pv 0) pa_nil))) (fun _ _ => rfl)) pa_nil)) pa_nil)) pa_nil)) pe_int) pe_int)))) pss_nil)))
    (Evl.pss_cut (ps_set (i := 3) sc__law_box.nd rfl (Or.inl rfl) (pe_ifExp (pt_cmpR op_ge (pv 2) (pe_op op_pow pe_int pe_int) (nomark _)) (pv 2) pe_int))
    (pss_one (ps_ret (pe_lst (pa_cons (pv 3) (pa_cons (pe_op op_add (pe_op op_mod (pe_callTy call_int1 (by rfl) n_int (by decide +kernel) (pa_cons (pe_op op_add (pe_op op_mul (pe_op op_mod (pe_callTy call_int1 (by rfl) n_int (by decide +kernel) (pa_cons (pv 2) pa_nil)) pe_int) pe_int) (pe_op op_mul pe_int (pv 1))) pa_nil)) pe_int) pe_int) pa_nil)))))))), ?_⟩
    walk_at "rd"
    refine ⟨fun σ H' => ∃ c : Int, σ = [some (.ref a), some (.int k), some (.int c), none] ∧ H' = H ∧ 0 ≤ c, ?_, ?_⟩
    · walk_at "rd"
      rw [List.length_map]
      refine iteD (fun c => ?_) (fun c => ?_)
      · obtain ⟨v, hv⟩ := at_int hk.1 c
        refine ⟨_, rfl, _, rfl, _, _, _, _, rfl, rfl, hS, hv, .inl ⟨_, rfl, _, rfl, _, rfl, rfl, abs_nn v⟩⟩
      · walk_at "rd"
        refine iteD (fun c2 => ?_) (fun c2 => ?_)
        · rw [List.length_map] at c2
          obtain ⟨v, hv⟩ := at_int (ns := ns) (k := k % (ns.length : Int)) (Int.emod_nonneg _ (by omega)) (Int.emod_lt_of_pos _ (by omega))
          refine ⟨_, rfl, _, rfl, _, rfl, .inl ⟨_, rfl, _, rfl, _, _, rfl, .inl hS, _, _, rfl, rfl, ?_, _, _, _, V.int v, rfl, rfl, hS, ?_, ?_⟩⟩
          · rw [List.length_map]; exact c2
          · rw [List.length_map]; exact hv
          · walk_at "rd"
            have := Int.emod_nonneg (if v < 0 then -v else v) (show (2147483629 : Int) ≠ 0 by decide)
            omega
        · exact ⟨_, rfl, rfl, by omega⟩
    · rintro σ H' ⟨c, rfl, rfl, hc⟩
      have fin : ∀ g : Int, 0 ≤ g → ∀ p, H' p = none → Q (.ref p) (upd H' p (.lst [.int g, .int ((c % 2147483629 * 48271 + 42641 * k) % 2147483629 + 1)])) := fun g g0 p hp =>
        q p _ hp (same_new hp _) ⟨g, _, upd_same, g0, ⟨by omega, by omega⟩⟩
      refine ⟨fun σ H2 => ∃ g : Int, 0 ≤ g ∧ σ = [some (.ref a), some (.int k), some (.int c), some (.int g)] ∧ H2 = H', ?_, ?_⟩
      · refine ⟨_, rfl, _, _, rfl, rfl, ⟨by decide, by decide, by decide⟩, _, _, rfl, rfl, _, rfl, ?_⟩
        refine iteD (fun c2 => ?_) (fun c2 => ?_)
        · exact ⟨_, rfl, c, hc, rfl, rfl⟩
        · exact ⟨0, Int.le_refl 0, rfl, rfl⟩
      rintro σ H2 ⟨g, g0, rfl, rfl⟩
      walk_at "rd"
      exact ⟨by show 2 ≤ sizeLine; decide, fun p hp => fin g g0 p hp⟩
/-! ### _law_pick -/
abbrev s__law_pick : Stmt := top 34
theorem sc__law_pick : FnScope ["box", "some"] ["box", "some"] (defScope s__law_pick) := ⟨rfl, rfl, rfl, by decide +kernel, rfl, by decide +kernel, by decide +kernel⟩
def spPick : Sp := fun vs H Q _ => ∃ (p l : Addr) (ns : List Str), vs = [.ref p, .ref l] ∧ BoxAt H p ∧ H l = some (.lst (ns.map V.str)) ∧ l ≠ p ∧ (1 ≤ ns.length ∧ ns.length ≤ 1000) ∧ ∀ x H', x ∈ ns → Kept p H H' → BoxAt H' p → Q (.str x) H'
theorem ok_pick {f : Addr} {fd : FuncData} (F : Fun K "_law_pick" "_law_pick" s__law_pick f fd) (C__law_take : Cl P w K mg base "_law_take" ["box", "many"] [] 1 spTake) (n_len : mg "len" = none) : FnOk P w K mg base CX0 2 f fd ["box", "some"] spPick := by
  refine F.ok sc__law_pick (fun vs H Q E h => ?_) (fun cdv A outer s H vs Q E hr h => ?_)
  · obtain ⟨_, _, _, rfl, _⟩ := h
    rfl
  · obtain ⟨p, l, ns, rfl, hb, hl, ne, hn, q⟩ := h
    refine ⟨_, (pss_one (ps_ret (pe_ix ix_list (pv 1) (pe_use C__law_take (hr.mono (by decide)) rfl (pa_cons (pv 0) (pa_cons (pe_callB call_len_seq (by rfl) n_len PySem.boot_len (pa_cons (pv 1) pa_nil)) pa_nil))) (fun _ _ => rfl)))), ?_⟩
    refine ⟨_, rfl, _, rfl, _, rfl, l, _, rfl, .inl (SqL.of hl), p, _, rfl, ?_, hb, fun d H' d0 d1 k b => ?_⟩
    · rw [List.length_map]; omega
    · rw [List.length_map] at d1
      have hd : d.toNat < ns.length := by omega
      have e : d = ((d.toNat : Nat) : Int) := by omega
      obtain ⟨x, hx⟩ : ∃ x, ns[d.toNat]? = some x := ⟨_, List.getElem?_eq_getElem hd⟩
      refine ⟨l, _, d, .str x, rfl, rfl, SqL.of (k _ _ hl ne), ?_, q _ H' (List.mem_of_getElem? hx) k b⟩
      rw [e]
      exact atI_nat (by rw [List.getElem?_map, hx] <;> rfl)
/-! ### _law_names -/
abbrev s__law_names : Stmt := top 35
theorem sc__law_names : FnScope ["box", "many", "found", "turn", "name", "sign", "more"] ["box", "many"] (defScope s__law_names) := ⟨rfl, rfl, rfl, by decide +kernel, rfl, by decide +kernel, by decide +kernel⟩
def AZ (x : Str) : Prop := ∀ c ∈ x.cps.toList, 97 ≤ c ∧ c < 123
def spNames : Sp := fun vs H Q _ => ∃ (p : Addr) (many : Int), vs = [.ref p, .int many] ∧ (1 ≤ many ∧ many ≤ 4) ∧ BoxAt H p ∧ ∀ (l : Addr) (ns : List Str) H', Kept p H H' → BoxAt H' p → H l = none → H' l = some (.lst (ns.map V.str)) → (ns.length : Int) = many → (∀ x ∈ ns, IsNm x) → Q (.ref l) H'
theorem az_app {x y : Str} (h : AZ x) (k : AZ y) : AZ (x ++ y) := fun c hc => by
  have e : (x ++ y).cps.toList = x.cps.toList ++ y.cps.toList := Array.toList_append
  rw [e] at hc
  exact (List.mem_append.mp hc).elim (h c) (k c)
theorem len_app (x y : Str) : (x ++ y).length = x.length + y.length := Array.size_append
theorem abc_at : ∀ d : Nat, d < 26 → ∃ c, atI (("abcdefghijklmnopqrstuvwxyz" : Str).cps.toList) (d : Int) = some c ∧ 97 ≤ c ∧ c < 123 := by decide +kernel
theorem ok_names {f : Addr} {fd : FuncData} (F : Fun K "_law_names" "_law_names" s__law_names f fd) (C__law_take : Cl P w K mg base "_law_take" ["box", "many"] [] 1 spTake) (n_range : mg "range" = none) : FnOk P w K mg base CX0 2 f fd ["box", "many"] spNames := by
  refine F.ok sc__law_names (fun vs H Q E h => ?_) (fun cdv A outer s H vs Q E hr h => ?_)
  · obtain ⟨_, _, rfl, _⟩ := h
    rfl
  · obtain ⟨p, many, rfl, hm, hb, q⟩ := h
    refine ⟨_, (pss_cons (ps_set (i := 2) sc__law_names.nd rfl (Or.inl rfl) (pe_lst pa_nil))
    (Evl.pss_cut (ps_for PassesOwn.never rfl (pi_range1 (by rfl) n_range (pa_cons (pv 1) pa_nil)) (pg_name (i := 3) sc__law_names.nd rfl (Or.inl rfl))
      (pss_cons (ps_set (i := 4) sc__law_names.nd rfl (Or.inl rfl) pe_str)
    (Evl.pss_cut (ps_for PassesOwn.never rfl (pi_range1 (by rfl) n_range (pa_cons (pe_op op_add pe_int (pe_use C__law_take (hr.mono (by decide)) rfl (pa_cons (pv 0) (pa_cons pe_int pa_nil)))) pa_nil)) (pg_name (i := 5) sc__law_names.nd rfl (Or.inl rfl))
      (pss_one (ps_set (i := 4) sc__law_names.nd rfl (Or.inl rfl) (pe_op op_add_str (pv 4) (pe_ix ix_str pe_str (pe_use C__law_take (hr.mono (by decide)) rfl (pa_cons (pv 0) (pa_cons pe_int pa_nil))) (fun _ _ => rfl))))))
    (Evl.pss_cut (ps_for PassesOwn.never rfl (pi_range1 (by rfl) n_range (pa_cons (pv 1) pa_nil)) (pg_name (i := 6) sc__law_names.nd rfl (Or.inl rfl))
      (pss_one (ps_if (pt_cmpR op_in_seq (pv 4) (pv 2) rfl) (pss_one (ps_set (i := 4) sc__law_names.nd rfl (Or.inl rfl) (pe_op op_add_str (pv 4) pe_str))) pss_nil)))
    (pss_one (ps_expr (pe_bm PySem.F.plainAttrs_list PySem.F.slot_list_append PySem.F.type_list_append mt_append (pv 2) (pa_cons (pv 4) pa_nil))))))))
    (pss_one (ps_ret (pv 2))))), ?_⟩
    refine ⟨Nat.zero_le _, fun l hl => ?_⟩
    have s0 := same_new hl (.lst [])
    have el : upd H l (.lst []) l = some (.lst []) := upd_same
    have hb0 := hb.same s0
    have nl : l ≠ p := fun z => by obtain ⟨_, _, e, _⟩ := hb; rw [z, e] at hl; cases hl
    generalize upd H l (.lst []) = H0 at s0 el hb0 ⊢
    refine ⟨fun σ H' => ∃ (ns : List Str) (o3 o4 o5 o6 : Option V), σ = [some (.ref p), some (.int many), some (.ref l), o3, o4, o5, o6] ∧ (∀ b o, H0 b = some o → b ≠ p → b ≠ l → H' b = some o) ∧ BoxAt H' p ∧ H' l = some (.lst (ns.map V.str)) ∧ (ns.length : Int) = many ∧ ∀ x ∈ ns, IsNm x, ?_, ?_⟩
    · refine ⟨_, rfl, many, rfl, by omega, by omega, ?_⟩
      refine for_range (n := many.toNat) (fun i σ H' => ∃ (ns : List Str) (o3 o4 o5 o6 : Option V), σ = [some (.ref p), some (.int many), some (.ref l), o3, o4, o5, o6] ∧ (∀ b o, H0 b = some o → b ≠ p → b ≠ l → H' b = some o) ∧ BoxAt H' p ∧ H' l = some (.lst (ns.map V.str)) ∧ ns.length = i ∧ ∀ x ∈ ns, IsNm x)
        ⟨[], none, none, none, none, rfl, fun _ _ e _ _ => e, hb0, el, rfl, fun x hx => by cases hx⟩ ?_ ?_
      · rintro i σ H1 hi ⟨ns, o3, o4, o5, o6, rfl, k1, b1, e1, ln, nm⟩
        refine ⟨fun σ H' => ∃ (x : Str) (o5 : Option V), σ = [some (.ref p), some (.int many), some (.ref l), some (.int (0 + (i : Nat))), some (.str x), o5, o6] ∧ Kept p H1 H' ∧ BoxAt H' p ∧ 1 ≤ x.length ∧ x.length ≤ 3 ∧ AZ x, ?_, ?_⟩
        · refine ⟨_, rfl, p, 3, rfl, ⟨by decide, by decide⟩, b1, fun d H2 d0 d1 k2 b2 => ⟨_, _, rfl, rfl, 1 + d, rfl, by omega, by omega, ?_⟩⟩
          refine for_range (n := (1 + d).toNat) (fun j σ H' => ∃ (x : Str) (o5 : Option V), σ = [some (.ref p), some (.int many), some (.ref l), some (.int (0 + (i : Nat))), some (.str x), o5, o6] ∧ Kept p H1 H' ∧ BoxAt H' p ∧ x.length = j ∧ AZ x)
            ⟨_, o5, rfl, k2, b2, rfl, fun c hc => by cases hc⟩ ?_ ?_
          · rintro j σ H3 hj ⟨x, o5', rfl, k3, b3, lx, ax⟩
            refine ⟨_, rfl, _, rfl, p, 26, rfl, ⟨by decide, by decide⟩, b3, fun e H4 e0 e1' k4 b4 => ?_⟩
            obtain ⟨c, hc, c0, c1⟩ := abc_at e.toNat (by omega)
            have ee : e = ((e.toNat : Nat) : Int) := by omega
            refine ⟨_, _, c, rfl, rfl, by decide +kernel, by rw [ee]; exact hc, x, ⟨#[c]⟩, rfl, rfl, ?_, x ++ ⟨#[c]⟩, _, rfl, k3.trans k4, b4, ?_, az_app ax fun z hz => by
              rw [List.mem_singleton.mp hz]; exact ⟨c0, c1⟩⟩
            · rw [lx, sizeLine_eq]; show j + 1 ≤ _; omega
            · rw [len_app, lx]; rfl
          · rintro σ H3 ⟨x, o5', rfl, k3, b3, lx, ax⟩
            exact ⟨x, o5', rfl, k3, b3, by omega, by omega, ax⟩
        rintro σ H2 ⟨x, o5', rfl, k2, b2, l1, l3, ax⟩
        have e2 := k2 _ _ e1 nl
        refine ⟨fun σ H' => ∃ (x : Str) (o6 : Option V), σ = [some (.ref p), some (.int many), some (.ref l), some (.int (0 + (i : Nat))), some (.str x), o5', o6] ∧ H' = H2 ∧ IsNm x, ?_, ?_⟩
        · refine ⟨_, rfl, many, rfl, by omega, by omega, ?_⟩
          refine for_range (n := many.toNat) (fun j σ H' => ∃ (x : Str) (o6 : Option V), σ = [some (.ref p), some (.int many), some (.ref l), some (.int (0 + (i : Nat))), some (.str x), o5', o6] ∧ H' = H2 ∧ 1 ≤ x.length ∧ x.length ≤ 3 + j ∧ AZ x)
            ⟨x, o6, rfl, rfl, l1, l3, ax⟩ ?_ ?_
          · rintro j σ H3 hj ⟨y, o6', rfl, rfl, m1, m3, ay⟩
            refine ⟨_, rfl, _, rfl, in_strs (SqX.lst e2) ⟨_, rfl, ?_⟩⟩
            refine iteD (fun _ => ?_) (fun _ => ?_)
            · refine ⟨_, rfl, y, ("z" : Str), rfl, rfl, ?_, y ++ "z", _, rfl, rfl, ?_, ?_, az_app ay ?_⟩
              · rw [sizeLine_eq]; show y.length + 1 ≤ _; omega
              · rw [len_app]; omega
              · rw [len_app]; show y.length + 1 ≤ _; omega
              · intro c hc
                have : ∀ c ∈ ("z" : Str).cps.toList, 97 ≤ c ∧ c < 123 := by decide +kernel
                exact this c hc
            · exact ⟨y, _, rfl, rfl, m1, by omega, ay⟩
          · rintro σ H3 ⟨y, o6', rfl, rfl, m1, m3, ay⟩
            exact ⟨y, o6', rfl, rfl, by omega, by omega, ay⟩
        rintro σ H3 ⟨y, o6', rfl, rfl, ny⟩
        refine ⟨_, rfl, .inl ⟨rfl, _, SqL.of e2⟩, _, rfl, l, _, _, rfl, rfl, e2, by rw [List.length_map, sizeLine_eq]; omega, ns ++ [y], _, _, _, _, rfl, fun b o e b1' b2' => ?_, ?_, ?_, ?_, fun z hz => ?_⟩
        · rw [upd_ne b2']; exact k2 _ _ (k1 b o e b1' b2') b1'
        · obtain ⟨g, t, e, r⟩ := b2
          exact ⟨g, t, by rw [upd_ne nl.symm]; exact e, r⟩
        · rw [upd_same, List.map_append]; rfl
        · rw [List.length_append, ln]; rfl
        · exact (List.mem_append.mp hz).elim (nm z) fun h => by rw [List.mem_singleton.mp h]; exact ny
      · rintro σ H1 ⟨ns, o3, o4, o5, o6, rfl, k1, b1, e1, ln, nm⟩
        exact ⟨ns, o3, o4, o5, o6, rfl, k1, b1, e1, by omega, nm⟩
    rintro σ H1 ⟨ns, o3, o4, o5, o6, rfl, k1, b1, e1, ln, nm⟩
    exact ⟨_, rfl, q l ns H1 (fun b o e ne => k1 b o (s0 b o e) ne (ne_of_none e hl)) b1 hl e1 ln nm⟩
end
end Kd

namespace Kd
open PySem PySem.Spec PyProof.Rows L2 Hb St Sq Ow En
/-! ### comprehensions that draw -/
section
variable {α : Type}
structure MB (bx : Addr) (f : α → V) (H1 : Hp) (D : Addr) (ds : List α) (i : Nat) (H : Hp) : Prop where
  kept : Kept bx H1 H
  box : BoxAt H bx
  acc : ∃ ys : List α, H D = some (.lst (ys.map f)) ∧ ys.Sublist (ds.take i)
variable {bx : Addr} {f : α → V} {H1 H : Hp} {D : Addr} {ds : List α} {i : Nat}
theorem mb_yes (m : MB bx f H1 D ds i H) (hd : H1 D = none) (nd : D ≠ bx) {H' : Hp} {d : α} (hi : ds[i]? = some d) (hl : ds.length ≤ 100000) (k : Kept bx H H') (b : BoxAt H' bx) :
    ∃ acc, H' D = some (.lst acc) ∧ acc.length < sizeLine ∧ MB bx f H1 D ds (i + 1) (upd H' D (.lst (acc ++ [f d]))) := by
  obtain ⟨k1, _, ys, e, sb⟩ := m
  refine ⟨ys.map f, k _ _ e nd, ?_, fun c o ec nc => ?_, ?_, ys ++ [d], ?_, ?_⟩
  · have h1 := sb.length_le
    have h2 : (ds.take i).length ≤ ds.length := by rw [List.length_take]; exact Nat.min_le_right _ _
    rw [List.length_map, sizeLine_eq]; omega
  · rw [upd_ne (ne_of_none ec hd)]; exact k _ _ (k1 _ _ ec nc) nc
  · obtain ⟨g, s, e2, r⟩ := b
    exact ⟨g, s, by rw [upd_ne nd.symm]; exact e2, r⟩
  · rw [upd_same, List.map_append]; rfl
  · rw [List.take_add_one, hi]
    exact sb.append (List.Sublist.refl _)
theorem mb_no (m : MB bx f H1 D ds i H) (nd : D ≠ bx) {H' : Hp} (k : Kept bx H H') (b : BoxAt H' bx) : MB bx f H1 D ds (i + 1) H' := by
  obtain ⟨k1, _, ys, e, sb⟩ := m
  exact ⟨k1.trans k, b, ys, k _ _ e nd, sb.trans (List.take_sublist_take_left (Nat.le_succ i))⟩
theorem lc_bx {J : It} {a : Addr} {S : Hp → Prop} (W : Wk J a S (ds.map f)) {g : TG} {tt : TT} {te : TE} {vs : List Nat} {σ : L2.St} {Qd : Hp → Prop} (hD : H1 D = none) (hb : BoxAt H1 bx) (stand : ∀ H, Kept bx H1 H → S H)
    (hs : ∀ i d H, ds[i]? = some d → MB bx f H1 D ds i H → g (f d) (wipe σ vs) H fun σ2 H2 => wipe σ2 vs = wipe σ vs ∧ tt σ2 H2 fun b H3 =>
      if b = true then te σ2 H3 fun y H4 => ∃ acc, H4 D = some (.lst acc) ∧ acc.length < sizeLine ∧ MB bx f H1 D ds (i + 1) (upd H4 D (.lst (acc ++ [y]))) else MB bx f H1 D ds (i + 1) H3)
    (hd : ∀ H (ys : List α), Kept bx H1 H → BoxAt H bx → H D = some (.lst (ys.map f)) → ys.Sublist ds → Qd H) :
    ∃ W : Nat → Nat → Hp → Prop, (∃ m, W 0 m (upd H1 D (.lst []))) ∧ ∀ i m H, W i m H →
      (J.stop i H ∧ Qd H) ∨ (J.go i H ∧ ∃ Nx : Hp → Prop, (∀ H', Nx H' → ∃ m', m' < m ∧ W (i + 1) m' H') ∧ ∀ v H', J.yld i H v H' → g v (wipe σ vs) H' fun σ2 H2 => wipe σ2 vs = wipe σ vs ∧ tt σ2 H2 fun b H3 =>
        if b = true then te σ2 H3 fun y H4 => ∃ acc, H4 D = some (.lst acc) ∧ acc.length < sizeLine ∧ Nx (upd H4 D (.lst (acc ++ [y]))) else Nx H3) := by
  have start : MB bx f H1 D ds 0 (upd H1 D (.lst [])) := by
    refine ⟨fun b o e _ => by rw [upd_ne (ne_of_none e hD)]; exact e, ?_, [], upd_same, List.nil_sublist _⟩
    obtain ⟨g, s, e, r⟩ := hb
    exact ⟨g, s, by rw [upd_ne (ne_of_none e hD)]; exact e, r⟩
  refine ⟨fun i m H => m + i = ds.length ∧ MB bx f H1 D ds i H, ⟨ds.length, rfl, start⟩, fun i m H ⟨e, p⟩ => ?_⟩
  cases m with
  | zero =>
    obtain rfl : i = ds.length := by omega
    obtain ⟨ys, ey, sb⟩ := p.acc
    have st := W.stop H (stand H p.kept)
    rw [List.length_map] at st
    rw [List.take_length] at sb
    exact .inl ⟨st, hd H ys p.kept p.box ey sb⟩
  | succ m =>
    have hi : i < ds.length := by omega
    have hi2 : i < (ds.map f).length := by rw [List.length_map]; exact hi
    refine .inr ⟨W.go i H hi2 (stand H p.kept), MB bx f H1 D ds (i + 1), fun H' p' => ⟨m, Nat.lt_succ_self m, by omega, p'⟩, fun v H' y => ?_⟩
    obtain ⟨rfl, ev⟩ := W.yld i H v H' hi2 (stand H p.kept) y
    have ed : ds[i]? = some ds[i] := List.getElem?_eq_getElem hi
    rw [at_map ev ed]
    exact hs i ds[i] H' ed p
end
/-! ### told wishes -/
def LSt (bx : Addr) (H : Hp) (v : V) (xs : List Str) : Prop := ∃ l, v = .ref l ∧ H l = some (.lst (xs.map V.str)) ∧ l ≠ bx
def SIb (bx : Addr) (K : PySem.W.Frag) (H : Hp) (v : V) (s : Stp) : Prop := ∃ a n r, v = .ref a ∧ SqT K H a [.int s.b, n, r, .int s.e] ∧ LSt bx H n s.need ∧ LSt bx H r s.bar
def Told (bx : Addr) (K : PySem.W.Frag) (H : Hp) (v : V) (T : Wd) : Prop := ∃ a g st its, v = .ref a ∧ SqT K H a [.int T.n, .ref g, .ref st] ∧ H g = some (.lst (T.good.map V.int)) ∧ g ≠ bx ∧ H st = some (.lst its) ∧ st ≠ bx ∧ All2 (SIb bx K H) its T.steps
structure TOk (T : Wd) : Prop where
  n2 : 2 ≤ T.n
  n3 : T.n ≤ 3
  asc : T.good.Pairwise (· < ·)
  gl : T.good.length ≤ 3
  gok : ∀ g ∈ T.good, 0 ≤ g ∧ g < T.n
  s4 : T.steps.length ≤ 4
  sok : ∀ s ∈ T.steps, OkS T.n s
  ln : ∀ s ∈ T.steps, s.need.length ≤ 4
  lb : ∀ s ∈ T.steps, s.bar.length ≤ 4
section
variable {bx : Addr} {K : PySem.W.Frag} {H H' : Hp}
theorem LSt.same {v : V} {xs : List Str} (h : LSt bx H v xs) (s : Same H H') : LSt bx H' v xs := let ⟨l, e, q, n⟩ := h; ⟨l, e, s _ _ q, n⟩
theorem LSt.kept {v : V} {xs : List Str} (h : LSt bx H v xs) (k : Kept bx H H') : LSt bx H' v xs := let ⟨l, e, q, n⟩ := h; ⟨l, e, k _ _ q n, n⟩
theorem LSt.tx {v : V} {xs : List Str} (h : LSt bx H v xs) : TX K H v xs := let ⟨l, e, q, _⟩ := h; ⟨l, e, SqX.lst q⟩
theorem SIb.same {v : V} {t : Stp} (h : SIb bx K H v t) (s : Same H H') : SIb bx K H' v t := let ⟨a, n, r, e, q, q1, q2⟩ := h; ⟨a, n, r, e, tupFix (Fix.of s) q, q1.same s, q2.same s⟩
theorem SIb.kept {v : V} {t : Stp} (h : SIb bx K H v t) (b : BoxAt H bx) (k : Kept bx H H') : SIb bx K H' v t := let ⟨a, n, r, e, q, q1, q2⟩ := h; ⟨a, n, r, e, tupFix (b.fix k) q, q1.kept k, q2.kept k⟩
theorem SIb.si {v : V} {t : Stp} (h : SIb bx K H v t) : SI K H v t := let ⟨a, n, r, e, q, q1, q2⟩ := h; ⟨a, n, r, e, q, q1.tx, q2.tx⟩
theorem Told.same {v : V} {T : Wd} (h : Told bx K H v T) (s : Same H H') : Told bx K H' v T :=
  let ⟨a, g, st, its, e, q, q1, n1, q2, n2, q3⟩ := h; ⟨a, g, st, its, e, tupFix (Fix.of s) q, s _ _ q1, n1, s _ _ q2, n2, q3.imp fun _ _ x => x.same s⟩
theorem Told.kept {v : V} {T : Wd} (h : Told bx K H v T) (b : BoxAt H bx) (k : Kept bx H H') : Told bx K H' v T :=
  let ⟨a, g, st, its, e, q, q1, n1, q2, n2, q3⟩ := h; ⟨a, g, st, its, e, tupFix (b.fix k) q, k _ _ q1 n1, n1, k _ _ q2 n2, n2, q3.imp fun _ _ x => x.kept b k⟩
theorem BoxAt.ex (h : BoxAt H bx) : ∃ o, H bx = some o := let ⟨_, _, e, _⟩ := h; ⟨_, e⟩
theorem ne_bx {l : Addr} (h : BoxAt H bx) (n : H l = none) : l ≠ bx := fun z => by obtain ⟨_, _, e, _⟩ := h; rw [z, e] at n; cases n
/-- (b, [..], [..], e) -/
theorem stp_fact {b e : Int} {xs ys : List Str} {vx vy : List V} (ex : vx = xs.map V.str) (ey : vy = ys.map V.str) (hb : BoxAt H bx) {l l2 t : Addr} (hl : H l = none) (hl2 : upd H l (.lst vx) l2 = none) (ht : upd (upd H l (.lst vx)) l2 (.lst vy) t = none) :
    Same H (upd (upd (upd H l (.lst vx)) l2 (.lst vy)) t (.tup [.int b, .ref l, .ref l2, .int e])) ∧ SIb bx K (upd (upd (upd H l (.lst vx)) l2 (.lst vy)) t (.tup [.int b, .ref l, .ref l2, .int e])) (.ref t) ⟨b, xs, ys, e⟩ := by
  subst ex ey
  have t1 := same_new hl (.lst (xs.map V.str))
  have t2 := same_new hl2 (.lst (ys.map V.str))
  have t3 := same_new ht (.tup [.int b, .ref l, .ref l2, .int e])
  exact ⟨(t1.trans t2).trans t3, t, .ref l, .ref l2, rfl, SqT.of upd_same, ⟨l, rfl, t3 _ _ (t2 _ _ upd_same), ne_bx hb hl⟩, ⟨l2, rfl, t3 _ _ upd_same, ne_bx (hb.same t1) hl2⟩⟩
/-- (n, good, [..]) -/
theorem told_fact {n : Int} {g : Addr} {good : List Int} {its : List V} {ss : List Stp} (hb : BoxAt H bx) (hg : H g = some (.lst (good.map V.int))) (ng : g ≠ bx) (al : All2 (SIb bx K H) its ss) {st T : Addr} (hst : H st = none) (hT : upd H st (.lst its) T = none) :
    Same H (upd (upd H st (.lst its)) T (.tup [.int n, .ref g, .ref st])) ∧ Told bx K (upd (upd H st (.lst its)) T (.tup [.int n, .ref g, .ref st])) (.ref T) ⟨n, good, ss⟩ := by
  have t1 := same_new hst (.lst its)
  have t2 := same_new hT (.tup [.int n, .ref g, .ref st])
  exact ⟨t1.trans t2, T, g, st, its, rfl, SqT.of upd_same, t2 _ _ (t1 _ _ hg), ng, t2 _ _ upd_same, ne_bx hb hst, al.imp fun _ _ x => x.same (t1.trans t2)⟩
end
theorem ok_s {n b e : Int} {x y : List Str} (h : 0 ≤ b ∧ b < n ∧ 0 ≤ e ∧ e < n) (hx : ∀ z ∈ x, IsNm z) (hy : ∀ z ∈ y, IsNm z) (lx : x.length ≤ 4) (ly : y.length ≤ 4) : OkS n ⟨b, x, y, e⟩ := ok_one h hx hy (by omega) (by omega)
theorem tok {n : Int} {good : List Int} {ss : List Stp} (hn : 2 ≤ n ∧ n ≤ 3) (asc : good.Pairwise (· < ·)) (gl : good.length ≤ 3) (gok : ∀ g ∈ good, 0 ≤ g ∧ g < n) (s4 : ss.length ≤ 4) (sok : ∀ s ∈ ss, OkS n s ∧ s.need.length ≤ 4 ∧ s.bar.length ≤ 4) : TOk ⟨n, good, ss⟩ :=
  ⟨hn.1, hn.2, asc, gl, gok, s4, fun s hs => (sok s hs).1, fun s hs => (sok s hs).2.1, fun s hs => (sok s hs).2.2⟩
theorem tok_one {n : Int} {g : Int} {ss : List Stp} (hn : 2 ≤ n ∧ n ≤ 3) (hg : 0 ≤ g ∧ g < n) (s4 : ss.length ≤ 4) (sok : ∀ s ∈ ss, OkS n s ∧ s.need.length ≤ 4 ∧ s.bar.length ≤ 4) : TOk ⟨n, [g], ss⟩ :=
  tok hn (List.pairwise_singleton _ _) (by show 1 ≤ 3; decide) (fun z hz => by rw [List.mem_singleton.mp hz]; exact hg) s4 sok
theorem s_one {s : Stp} {p : Stp → Prop} (h : p s) : ∀ z ∈ [s], p z := fun z hz => by rw [List.mem_singleton.mp hz]; exact h
theorem s_two {s t : Stp} {p : Stp → Prop} (h : p s) (k : p t) : ∀ z ∈ [s, t], p z := fun z hz => by
  rcases List.mem_cons.mp hz with rfl | hz
  · exact h
  · rw [List.mem_singleton.mp hz]; exact k
section
variable {P : Program} {w : World} {K : PySem.W.Frag} {mg : Str → Option Value} {base : Heap}
/-- a told step whose lists are neither at bx nor at sp -/
def SI2 (bx sp : Addr) (K : PySem.W.Frag) (H : Hp) (v : V) (s : Stp) : Prop := ∃ a n r, v = .ref a ∧ SqT K H a [.int s.b, .ref n, .ref r, .int s.e] ∧ H n = some (.lst (s.need.map V.str)) ∧ n ≠ bx ∧ n ≠ sp ∧ H r = some (.lst (s.bar.map V.str)) ∧ r ≠ bx ∧ r ≠ sp
theorem SI2.sib {bx sp : Addr} {H : Hp} {v : V} {s : Stp} (h : SI2 bx sp K H v s) : SIb bx K H v s := let ⟨a, n, r, e, q, q1, n1, _, q2, n2, _⟩ := h; ⟨a, .ref n, .ref r, e, q, ⟨n, rfl, q1, n1⟩, ⟨r, rfl, q2, n2⟩⟩
theorem SI2.keep {bx sp : Addr} {H H' : Hp} {v : V} {s : Stp} (h : SI2 bx sp K H v s) (f : Fix H H') (k : ∀ b o, H b = some o → b ≠ bx → b ≠ sp → H' b = some o) : SI2 bx sp K H' v s :=
  let ⟨a, n, r, e, q, q1, n1, m1, q2, n2, m2⟩ := h; ⟨a, n, r, e, tupFix f q, k _ _ q1 n1 m1, n1, m1, k _ _ q2 n2 m2, n2, m2⟩
theorem sub_lt {ys ds : List Int} (h : ys.Sublist ds) (k : ds.Pairwise (· < ·)) : ys.Pairwise (· < ·) := k.sublist h
/-! ### _law_wish -/
abbrev s__law_wish : Stmt := top 36
theorem sc__law_wish : FnScope ["box", "rings", "one", "two", "form", "good", "steps", "turn", "need", "bar", "ring", "k"] ["box", "rings"] (defScope s__law_wish) := ⟨rfl, rfl, rfl, by decide +kernel, rfl, by decide +kernel, by decide +kernel⟩
def spTold (K : PySem.W.Frag) : Sp := fun vs H Q _ => ∃ (bx rl : Addr) (rings : List Str), vs = [.ref bx, .ref rl] ∧ BoxAt H bx ∧ H rl = some (.lst (rings.map V.str)) ∧ rl ≠ bx ∧ (1 ≤ rings.length ∧ rings.length ≤ 4) ∧ (∀ x ∈ rings, IsNm x) ∧
  ∀ v T H', Kept bx H H' → BoxAt H' bx → Told bx K H' v T → TOk T → Q v H'
theorem ok_told {f : Addr} {fd : FuncData} (F : Fun K "_law_wish" "_law_wish" s__law_wish f fd) (C__law_pick : Cl P w K mg base "_law_pick" ["box", "some"] [] 2 spPick) (C__law_take : Cl P w K mg base "_law_take" ["box", "many"] [] 1 spTake) (n_range : mg "range" = none) : FnOk P w K mg base CX0 3 f fd ["box", "rings"] (spTold K) := by
  refine F.ok sc__law_wish (fun vs H Q E h => ?_) (fun cdv A outer s H vs Q E hr h => ?_)
  · obtain ⟨_, _, _, rfl, _⟩ := h
    rfl
  · obtain ⟨bx, rl, rings, rfl, hb, hr0, nr, rn, nm, q⟩ := h
    refine ⟨_, (pss_cons (ps_par (i := 2) (j := 3) (by rfl) sc__law_wish.nd rfl rfl (by decide) rfl rfl (pa_cons (pe_use C__law_pick (hr.mono (by decide)) rfl (pa_cons (pv 0) (pa_cons (pv 1) pa_nil))) (pa_cons (pe_use C__law_pick (hr.mono (by decide)) rfl (pa_cons (pv 0) (pa_cons (pv 1) pa_nil))) pa_nil)) (by rfl))
    (pss_cons (ps_set (i := 4) sc__law_wish.nd rfl (Or.inl rfl) (pe_use C__law_take (hr.mono (by decide)) rfl (pa_cons (pv 0) (pa_cons pe_int pa_nil))))
    (pss_cons (ps_set (i := 5) sc__law_wish.nd rfl (Or.inl rfl) (pe_ix ix_list (pe_lst (pa_cons (pe_lst (pa_cons pe_int pa_nil)) (pa_cons (pe_lst (pa_cons pe_int pa_nil)) pa_nil))) (pe_use C__law_take (hr.mono (by decide)) rfl (pa_cons (pv 0) (pa_cons pe_int pa_nil))) (fun _ _ => rfl)))
    (Evl.pss_cut (ps_if (pt_cmpR op_eq (pv 4) pe_int (nomark _)) (pss_one (ps_ret (pe_tup (pa_cons pe_int (pa_cons (pv 5) (pa_cons (pe_lst (pa_cons (pe_tup (pa_cons pe_int (pa_cons (pe_lst (pa_cons (pv 2) pa_nil)) (pa_cons (pe_lst pa_nil) (pa_cons pe_int pa_nil))))) pa_nil)) pa_nil)))))) pss_nil)
    (Evl.pss_cut (ps_if (pt_cmpR op_eq (pv 4) pe_int (nomark _)) (pss_one (ps_ret (pe_tup (pa_cons pe_int (pa_cons (pe_lst (pa_cons pe_int pa_nil)) (pa_cons (pe_lst (pa_cons (pe_tup (pa_cons pe_int (pa_cons (pe_lst (pa_cons (pv 3) pa_nil)) (pa_cons (pe_lst pa_nil) (pa_cons pe_int pa_nil))))) (pa_cons (pe_tup (pa_cons pe_int (pa_cons (pe_lst (pa_cons (pv 2) pa_nil)) (pa_cons (pe_lst pa_nil) (pa_cons pe_int pa_nil))))) pa_nil))) pa_nil)))))) pss_nil)
    (Evl.pss_cut (ps_if (pt_cmpR op_eq (pv 4) pe_int (nomark _)) (pss_one (ps_ret (pe_tup (pa_cons pe_int (pa_cons (pv 5) (pa_cons (pe_lst (pa_cons (pe_tup (pa_cons pe_int (pa_cons (pe_lst (pa_cons (pv 2) pa_nil)) (pa_cons (pe_lst pa_nil) (pa_cons pe_int pa_nil))))) (pa_cons (pe_tup (pa_cons pe_int (pa_cons (pe_lst (pa_cons (pv 2) pa_nil)) (pa_cons (pe_lst pa_nil) (pa_cons pe_int pa_nil))))) pa_nil))) pa_nil)))))) pss_nil)
    (Evl.pss_cut (ps_if (pt_cmpR op_eq (pv 4) pe_int (nomark _)) (pss_one (ps_ret (pe_tup (pa_cons pe_int (pa_cons (pe_lst (pa_cons pe_int pa_nil)) (pa_cons (pe_lst (pa_cons (pe_tup (pa_cons pe_int (pa_cons (pe_lst (pa_cons (pv 2) pa_nil)) (pa_cons (pe_lst pa_nil) (pa_cons pe_int pa_nil))))) (pa_cons (pe_tup (pa_cons pe_int (pa_cons (pe_lst pa_nil) (pa_cons (pe_lst (pa_cons (pv 2) pa_nil)) (pa_cons pe_int pa_nil))))) pa_nil))) pa_nil)))))) pss_nil)
    (Evl.pss_cut (ps_if (pt_cmpR op_eq (pv 4) pe_int (nomark _)) (pss_one (ps_ret (pe_tup (pa_cons pe_int (pa_cons (pe_lst (pa_cons pe_int pa_nil)) (pa_cons (pe_lst (pa_cons (pe_tup (pa_cons pe_int (pa_cons (pe_lst (pa_cons (pv 2) pa_nil)) (pa_cons (pe_lst pa_nil) (pa_cons pe_int pa_nil))))) (pa_cons (pe_tup (pa_cons pe_int (pa_cons (pe_lst (pa_cons (pv 3) pa_nil)) (pa_cons (pe_lst pa_nil) (pa_cons pe_int pa_nil))))) pa_nil))) pa_nil)))))) pss_nil)
    (pss_cons (ps_set (i := 6) sc__law_wish.nd rfl (Or.inl rfl) (pe_lst pa_nil))
    (Evl.pss_cut (ps_for PassesOwn.never rfl (pi_range1 (by rfl) n_range (pa_cons (pe_op op_add pe_int (pe_use C__law_take (hr.mono (by decide)) rfl (pa_cons (pv 0) (pa_cons pe_int pa_nil)))) pa_nil)) (pg_name (i := 7) sc__law_wish.nd rfl (Or.inl rfl))
      (pss_cons (ps_set (i := 8) sc__law_wish.nd rfl (Or.inr rfl) (pe_lc (own := [("ring", 10)]) (g := gName 10) rfl sc__law_wish.nd (pi_seq (pv 1)) (blkOk_by (N := ["box", "rings", "one", "two", "form", "good", "steps", "turn", "need", "bar", "ring", "k"]) (sc := defScope s__law_wish) (by decide +kernel)) (fun _ _ _ _ _ => pg_name (i := 10) sc__law_wish.nd rfl (Or.inl rfl)) (fun _ _ _ _ _ => pts_one (pt_cmpR op_eq (pe_use C__law_take (hr.mono (by decide)) rfl (pa_cons (pv 0) (pa_cons pe_int pa_nil))) pe_int (nomark _))) (fun _ _ _ _ _ => pv 10)))
    (Evl.pss_cut (ps_setLc (i := 9) (own := [("ring", 10)]) (g := gName 10) (by rfl) sc__law_wish.nd rfl rfl (sw_true rfl rfl rfl (by decide +kernel)) (pi_seq (pv 1)) (blkOk_by (N := ["box", "rings", "one", "two", "form", "good", "steps", "turn", "need", "bar", "ring", "k"]) (sc := defScope s__law_wish) (by decide +kernel)) (fun _ _ _ _ _ => pg_name (i := 10) sc__law_wish.nd rfl (Or.inl rfl)) (fun _ _ _ _ _ => pts_one (PW.pt (pw_and (pt_cmpR (r := rIn K true) op_notIn_seq (pv 10) (pv 8) rfl) (pw_and1 (pt_cmpR op_eq (pe_use C__law_take (hr.mono (by decide)) rfl (pa_cons (pv 0) (pa_cons pe_int pa_nil))) pe_int (nomark _)))))) (fun _ _ _ _ _ => pv 10))
    (pss_one (ps_expr (pe_bm PySem.F.plainAttrs_list PySem.F.slot_list_append PySem.F.type_list_append mt_append (pv 6) (pa_cons (pe_tup (pa_cons (pe_use C__law_take (hr.mono (by decide)) rfl (pa_cons (pv 0) (pa_cons pe_int pa_nil))) (pa_cons (pv 8) (pa_cons (pv 9) (pa_cons (pe_use C__law_take (hr.mono (by decide)) rfl (pa_cons (pv 0) (pa_cons pe_int pa_nil))) pa_nil))))) pa_nil)))))))
    (pss_one (ps_ret (pe_tup (pa_cons pe_int (pa_cons (pe_lc (own := [("k", 11)]) (g := gName 11) rfl sc__law_wish.nd (pi_range1 (by rfl) n_range (pa_cons pe_int pa_nil)) (blkOk_by (N := ["box", "rings", "one", "two", "form", "good", "steps", "turn", "need", "bar", "ring", "k"]) (sc := defScope s__law_wish) (by decide +kernel)) (fun _ _ _ _ _ => pg_name (i := 11) sc__law_wish.nd rfl (Or.inl rfl)) (fun _ _ _ _ _ => pts_one (pt_cmpR op_eq (pe_use C__law_take (hr.mono (by decide)) rfl (pa_cons (pv 0) (pa_cons pe_int pa_nil))) pe_int (nomark _))) (fun _ _ _ _ _ => pv 11)) (pa_cons (pv 6) pa_nil)))))))))))))))), ?_⟩
    refine ⟨_, rfl, _, rfl, bx, rl, rings, rfl, hb, hr0, nr, ⟨rn.1, by omega⟩, fun x H1 hx k1 b1 => ?_⟩
    refine ⟨_, rfl, _, rfl, bx, rl, rings, rfl, b1, k1 _ _ hr0 nr, nr, ⟨rn.1, by omega⟩, fun y H2 hy k2 b2 => ⟨_, _, rfl, ?_⟩⟩
    have nx := nm x hx
    have ny := nm y hy
    refine ⟨_, rfl, bx, 8, rfl, ⟨by decide, by decide⟩, b2, fun form H3 _ _ k3 b3 => ?_⟩
    have k03 : Kept bx H H3 := (k1.trans k2).trans k3
    refine ⟨by show 1 ≤ sizeLine; decide, fun g1 hg1 => ⟨by show 1 ≤ sizeLine; decide, fun g2 hg2 => ⟨by show 2 ≤ sizeLine; decide, fun gg hgg => ?_⟩⟩⟩
    have t1 := same_new hg1 (.lst [.int 1])
    have t2 := same_new hg2 (.lst [.int 0])
    have t3 := same_new hgg (.lst [.ref g1, .ref g2])
    have e1 := t3 _ _ (t2 _ _ (show (upd H3 g1 (.lst [.int 1])) g1 = _ from upd_same))
    have e2 := t3 _ _ (show (upd (upd H3 g1 (.lst [.int 1])) g2 (.lst [.int 0])) g2 = _ from upd_same)
    have eg : upd (upd (upd H3 g1 (.lst [.int 1])) g2 (.lst [.int 0])) gg (.lst [.ref g1, .ref g2]) gg = some (.lst [.ref g1, .ref g2]) := upd_same
    have n1 : g1 ≠ bx := ne_bx b3 hg1
    have n2 : g2 ≠ bx := ne_bx (b3.same t1) hg2
    have ng : gg ≠ bx := ne_bx ((b3.same t1).same t2) hgg
    have s4 : Same H3 (upd (upd (upd H3 g1 (.lst [.int 1])) g2 (.lst [.int 0])) gg (.lst [.ref g1, .ref g2])) := (t1.trans t2).trans t3
    generalize upd (upd (upd H3 g1 (.lst [.int 1])) g2 (.lst [.int 0])) gg (.lst [.ref g1, .ref g2]) = H4 at e1 e2 eg s4 ⊢
    refine ⟨_, rfl, bx, 2, rfl, ⟨by decide, by decide⟩, b3.same s4, fun d H5 d0 d1 k5 b5 => ?_⟩
    have k05 : Kept bx H H5 := k03.trans ((Hb.Same.kept s4).trans k5)
    have hr5 : H5 rl = some (.lst (rings.map V.str)) := k05 _ _ hr0 nr
    obtain ⟨g, gv, atg, hgv, ngv, hg0⟩ : ∃ (g : Addr) (gv : Int), atI [V.ref g1, V.ref g2] d = some (V.ref g) ∧ H5 g = some (.lst [.int gv]) ∧ g ≠ bx ∧ (0 ≤ gv ∧ gv < 2) := by
      by_cases c : d = 0
      · subst c; exact ⟨g1, 1, rfl, k5 _ _ e1 n1, n1, by decide⟩
      · obtain rfl : d = 1 := by omega
        exact ⟨g2, 0, rfl, k5 _ _ e2 n2, n2, by decide⟩
    refine ⟨gg, _, _, _, rfl, rfl, SqL.of (k5 _ _ eg ng), atg, ?_⟩
    have fin : ∀ (H6 : Hp) v T H7, Same H5 H6 → Same H6 H7 → Told bx K H7 v T → TOk T → Q v H7 := fun H6 v T H7 s6 s7 ht ok => q v T H7 (k05.trans (Hb.Same.kept (s6.trans s7))) (b5.same (s6.trans s7)) ht ok
    let σ5 : L2.St := [some (.ref bx), some (.ref rl), some (.str x), some (.str y), some (.int form), some (.ref g), none, none, none, none, none, none]
    have hx1 := nm_one nx
    have hy1 := nm_one ny
    have one4 : ([x] : List Str).length ≤ 4 := by show 1 ≤ 4; decide
    -- 0
    refine ⟨fun σ H' => σ = σ5 ∧ H' = H5, ?_, ?_⟩
    · refine ⟨_, rfl, rfl, _, rfl, iteD (fun _ => ?_) (fun _ => ⟨rfl, rfl⟩)⟩
      refine ⟨_, rfl, _, rfl, by show 1 ≤ sizeLine; decide, fun l hl => ⟨Nat.zero_le _, fun l2 hl2 => ⟨by show 4 ≤ sizeLine; decide, fun t ht => ?_⟩⟩⟩
      obtain ⟨s6, w1⟩ := stp_fact (K := K) (b := 0) (e := 1) (xs := [x]) (ys := []) (vx := [V.str x]) (vy := []) rfl rfl b5 hl hl2 ht
      generalize upd (upd (upd H5 l (.lst [V.str x])) l2 (.lst [])) t (.tup [V.int 0, .ref l, .ref l2, .int 1]) = H6 at s6 w1 ⊢
      refine ⟨by show 1 ≤ sizeLine; decide, fun st hst => ⟨by show 3 ≤ sizeLine; decide, fun T hT => ?_⟩⟩
      obtain ⟨s7, ht⟩ := told_fact (K := K) (n := 2) (good := [gv]) (ss := [⟨0, [x], [], 1⟩]) (b5.same s6) (s6 _ _ hgv) ngv (.cons w1 .nil) hst hT
      exact fin H6 _ _ _ s6 s7 ht (tok_one (n := 2) (by decide) hg0 (by show 1 ≤ 4; decide) (s_one ⟨ok_s (by decide) hx1 nm_nil one4 (Nat.zero_le _), one4, Nat.zero_le _⟩))
    rintro σ H5' ⟨rfl, rfl⟩
    -- 1
    refine ⟨fun σ H' => σ = σ5 ∧ H' = H5', ?_, ?_⟩
    · refine ⟨_, rfl, rfl, _, rfl, iteD (fun _ => ?_) (fun _ => ⟨rfl, rfl⟩)⟩
      refine ⟨by show 1 ≤ sizeLine; decide, fun ga hga => ?_⟩
      have u1 := same_new hga (.lst [V.int 1])
      have eu : upd H5' ga (.lst [V.int 1]) ga = some (.lst [V.int 1]) := upd_same
      have nu := ne_bx b5 hga
      generalize upd H5' ga (.lst [V.int 1]) = H6 at u1 eu ⊢
      refine ⟨_, rfl, by show 1 ≤ sizeLine; decide, fun l hl => ⟨Nat.zero_le _, fun l2 hl2 => ⟨by show 4 ≤ sizeLine; decide, fun t ht => ?_⟩⟩⟩
      obtain ⟨s7, w1⟩ := stp_fact (K := K) (b := 0) (e := 2) (xs := [y]) (ys := []) (vx := [V.str y]) (vy := []) rfl rfl (b5.same u1) hl hl2 ht
      generalize upd (upd (upd H6 l (.lst [V.str y])) l2 (.lst [])) t (.tup [V.int 0, .ref l, .ref l2, .int 2]) = H7 at s7 w1 ⊢
      refine ⟨_, rfl, by show 1 ≤ sizeLine; decide, fun l hl => ⟨Nat.zero_le _, fun l2 hl2 => ⟨by show 4 ≤ sizeLine; decide, fun t' ht => ?_⟩⟩⟩
      obtain ⟨s8, w2⟩ := stp_fact (K := K) (b := 0) (e := 1) (xs := [x]) (ys := []) (vx := [V.str x]) (vy := []) rfl rfl ((b5.same u1).same s7) hl hl2 ht
      generalize upd (upd (upd H7 l (.lst [V.str x])) l2 (.lst [])) t' (.tup [V.int 0, .ref l, .ref l2, .int 1]) = H8 at s8 w2 ⊢
      refine ⟨by show 2 ≤ sizeLine; decide, fun st hst => ⟨by show 3 ≤ sizeLine; decide, fun T hT => ?_⟩⟩
      obtain ⟨s9, ht⟩ := told_fact (K := K) (n := 3) (good := [1]) (ss := [⟨0, [y], [], 2⟩, ⟨0, [x], [], 1⟩]) (((b5.same u1).same s7).same s8) (s8 _ _ (s7 _ _ eu)) nu (.cons (w1.same s8) (.cons w2 .nil)) hst hT
      exact fin H8 _ _ _ ((u1.trans s7).trans s8) s9 ht (tok_one (by decide) (by decide) (by show 2 ≤ 4; decide) (s_two ⟨ok_s (by decide) hy1 nm_nil one4 (Nat.zero_le _), one4, Nat.zero_le _⟩ ⟨ok_s (by decide) hx1 nm_nil one4 (Nat.zero_le _), one4, Nat.zero_le _⟩))
    rintro σ H5'' ⟨rfl, rfl⟩
    -- 2
    refine ⟨fun σ H' => σ = σ5 ∧ H' = H5'', ?_, ?_⟩
    · refine ⟨_, rfl, rfl, _, rfl, iteD (fun _ => ?_) (fun _ => ⟨rfl, rfl⟩)⟩
      refine ⟨_, rfl, _, rfl, by show 1 ≤ sizeLine; decide, fun l hl => ⟨Nat.zero_le _, fun l2 hl2 => ⟨by show 4 ≤ sizeLine; decide, fun t ht => ?_⟩⟩⟩
      obtain ⟨s7, w1⟩ := stp_fact (K := K) (b := 0) (e := 1) (xs := [x]) (ys := []) (vx := [V.str x]) (vy := []) rfl rfl b5 hl hl2 ht
      generalize upd (upd (upd H5'' l (.lst [V.str x])) l2 (.lst [])) t (.tup [V.int 0, .ref l, .ref l2, .int 1]) = H7 at s7 w1 ⊢
      refine ⟨_, rfl, by show 1 ≤ sizeLine; decide, fun l hl => ⟨Nat.zero_le _, fun l2 hl2 => ⟨by show 4 ≤ sizeLine; decide, fun t' ht => ?_⟩⟩⟩
      obtain ⟨s8, w2⟩ := stp_fact (K := K) (b := 1) (e := 0) (xs := [x]) (ys := []) (vx := [V.str x]) (vy := []) rfl rfl (b5.same s7) hl hl2 ht
      generalize upd (upd (upd H7 l (.lst [V.str x])) l2 (.lst [])) t' (.tup [V.int 1, .ref l, .ref l2, .int 0]) = H8 at s8 w2 ⊢
      refine ⟨by show 2 ≤ sizeLine; decide, fun st hst => ⟨by show 3 ≤ sizeLine; decide, fun T hT => ?_⟩⟩
      obtain ⟨s9, ht⟩ := told_fact (K := K) (n := 2) (good := [gv]) (ss := [⟨0, [x], [], 1⟩, ⟨1, [x], [], 0⟩]) ((b5.same s7).same s8) (s8 _ _ (s7 _ _ hgv)) ngv (.cons (w1.same s8) (.cons w2 .nil)) hst hT
      exact fin H8 _ _ _ (s7.trans s8) s9 ht (tok_one (n := 2) (by decide) hg0 (by show 2 ≤ 4; decide) (s_two ⟨ok_s (by decide) hx1 nm_nil one4 (Nat.zero_le _), one4, Nat.zero_le _⟩ ⟨ok_s (by decide) hx1 nm_nil one4 (Nat.zero_le _), one4, Nat.zero_le _⟩))
    rintro σ H5a ⟨rfl, rfl⟩
    -- 3
    refine ⟨fun σ H' => σ = σ5 ∧ H' = H5a, ?_, ?_⟩
    · refine ⟨_, rfl, rfl, _, rfl, iteD (fun _ => ?_) (fun _ => ⟨rfl, rfl⟩)⟩
      refine ⟨by show 1 ≤ sizeLine; decide, fun ga hga => ?_⟩
      have u1 := same_new hga (.lst [V.int 1])
      have eu : upd H5a ga (.lst [V.int 1]) ga = some (.lst [V.int 1]) := upd_same
      have nu := ne_bx b5 hga
      generalize upd H5a ga (.lst [V.int 1]) = H6 at u1 eu ⊢
      refine ⟨_, rfl, by show 1 ≤ sizeLine; decide, fun l hl => ⟨Nat.zero_le _, fun l2 hl2 => ⟨by show 4 ≤ sizeLine; decide, fun t ht => ?_⟩⟩⟩
      obtain ⟨s7, w1⟩ := stp_fact (K := K) (b := 0) (e := 1) (xs := [x]) (ys := []) (vx := [V.str x]) (vy := []) rfl rfl (b5.same u1) hl hl2 ht
      generalize upd (upd (upd H6 l (.lst [V.str x])) l2 (.lst [])) t (.tup [V.int 0, .ref l, .ref l2, .int 1]) = H7 at s7 w1 ⊢
      refine ⟨Nat.zero_le _, fun l hl => ⟨_, rfl, by show 1 ≤ sizeLine; decide, fun l2 hl2 => ⟨by show 4 ≤ sizeLine; decide, fun t' ht => ?_⟩⟩⟩
      obtain ⟨s8, w2⟩ := stp_fact (K := K) (b := 1) (e := 0) (xs := []) (ys := [x]) (vx := []) (vy := [V.str x]) rfl rfl ((b5.same u1).same s7) hl hl2 ht
      generalize upd (upd (upd H7 l (.lst [])) l2 (.lst [V.str x])) t' (.tup [V.int 1, .ref l, .ref l2, .int 0]) = H8 at s8 w2 ⊢
      refine ⟨by show 2 ≤ sizeLine; decide, fun st hst => ⟨by show 3 ≤ sizeLine; decide, fun T hT => ?_⟩⟩
      obtain ⟨s9, ht⟩ := told_fact (K := K) (n := 2) (good := [1]) (ss := [⟨0, [x], [], 1⟩, ⟨1, [], [x], 0⟩]) (((b5.same u1).same s7).same s8) (s8 _ _ (s7 _ _ eu)) nu (.cons (w1.same s8) (.cons w2 .nil)) hst hT
      exact fin H8 _ _ _ ((u1.trans s7).trans s8) s9 ht (tok_one (by decide) (by decide) (by show 2 ≤ 4; decide) (s_two ⟨ok_s (by decide) hx1 nm_nil one4 (Nat.zero_le _), one4, Nat.zero_le _⟩ ⟨ok_s (by decide) nm_nil hx1 (Nat.zero_le _) one4, Nat.zero_le _, one4⟩))
    rintro σ H5b ⟨rfl, rfl⟩
    -- 4
    refine ⟨fun σ H' => σ = σ5 ∧ H' = H5b, ?_, ?_⟩
    · refine ⟨_, rfl, rfl, _, rfl, iteD (fun _ => ?_) (fun _ => ⟨rfl, rfl⟩)⟩
      refine ⟨by show 1 ≤ sizeLine; decide, fun ga hga => ?_⟩
      have u1 := same_new hga (.lst [V.int 2])
      have eu : upd H5b ga (.lst [V.int 2]) ga = some (.lst [V.int 2]) := upd_same
      have nu := ne_bx b5 hga
      generalize upd H5b ga (.lst [V.int 2]) = H6 at u1 eu ⊢
      refine ⟨_, rfl, by show 1 ≤ sizeLine; decide, fun l hl => ⟨Nat.zero_le _, fun l2 hl2 => ⟨by show 4 ≤ sizeLine; decide, fun t ht => ?_⟩⟩⟩
      obtain ⟨s7, w1⟩ := stp_fact (K := K) (b := 0) (e := 1) (xs := [x]) (ys := []) (vx := [V.str x]) (vy := []) rfl rfl (b5.same u1) hl hl2 ht
      generalize upd (upd (upd H6 l (.lst [V.str x])) l2 (.lst [])) t (.tup [V.int 0, .ref l, .ref l2, .int 1]) = H7 at s7 w1 ⊢
      refine ⟨_, rfl, by show 1 ≤ sizeLine; decide, fun l hl => ⟨Nat.zero_le _, fun l2 hl2 => ⟨by show 4 ≤ sizeLine; decide, fun t' ht => ?_⟩⟩⟩
      obtain ⟨s8, w2⟩ := stp_fact (K := K) (b := 1) (e := 2) (xs := [y]) (ys := []) (vx := [V.str y]) (vy := []) rfl rfl ((b5.same u1).same s7) hl hl2 ht
      generalize upd (upd (upd H7 l (.lst [V.str y])) l2 (.lst [])) t' (.tup [V.int 1, .ref l, .ref l2, .int 2]) = H8 at s8 w2 ⊢
      refine ⟨by show 2 ≤ sizeLine; decide, fun st hst => ⟨by show 3 ≤ sizeLine; decide, fun T hT => ?_⟩⟩
      obtain ⟨s9, ht⟩ := told_fact (K := K) (n := 3) (good := [2]) (ss := [⟨0, [x], [], 1⟩, ⟨1, [y], [], 2⟩]) (((b5.same u1).same s7).same s8) (s8 _ _ (s7 _ _ eu)) nu (.cons (w1.same s8) (.cons w2 .nil)) hst hT
      exact fin H8 _ _ _ ((u1.trans s7).trans s8) s9 ht (tok_one (by decide) (by decide) (by show 2 ≤ 4; decide) (s_two ⟨ok_s (by decide) hx1 nm_nil one4 (Nat.zero_le _), one4, Nat.zero_le _⟩ ⟨ok_s (by decide) hy1 nm_nil one4 (Nat.zero_le _), one4, Nat.zero_le _⟩))
    rintro σ H5c ⟨rfl, rfl⟩
    refine ⟨Nat.zero_le _, fun sp hsp => ?_⟩
    have u0 := same_new hsp (.lst [])
    have es0 : upd H5c sp (.lst []) sp = some (.lst []) := upd_same
    have nsb : sp ≠ bx := ne_bx b5 hsp
    have nsr : rl ≠ sp := ne_of_none hr5 hsp
    generalize upd H5c sp (.lst []) = H6 at u0 es0 ⊢
    have b6 := b5.same u0
    have hr6 := u0 _ _ hr5
    refine ⟨fun σ H' => ∃ (its : List V) (ss : List Stp) (o7 o8 o9 o10 o11 : Option V), σ = [some (.ref bx), some (.ref rl), some (.str x), some (.str y), some (.int form), some (.ref g), some (.ref sp), o7, o8, o9, o10, o11] ∧ (∀ b o, H6 b = some o → b ≠ bx → b ≠ sp → H' b = some o) ∧ BoxAt H' bx ∧
      H' sp = some (.lst its) ∧ All2 (SI2 bx sp K H') its ss ∧ ss.length ≤ 4 ∧ ∀ s ∈ ss, OkS 3 s ∧ s.need.length ≤ 4 ∧ s.bar.length ≤ 4, ?_, ?_⟩
    · refine ⟨_, rfl, bx, 3, rfl, ⟨by decide, by decide⟩, b6, fun d H7 d0 d1 k7 b7 => ⟨_, _, rfl, rfl, 2 + d, rfl, by omega, by omega, ?_⟩⟩
      refine for_range (n := (2 + d).toNat) (fun i σ H' => ∃ (its : List V) (ss : List Stp) (o7 o8 o9 o10 o11 : Option V), σ = [some (.ref bx), some (.ref rl), some (.str x), some (.str y), some (.int form), some (.ref g), some (.ref sp), o7, o8, o9, o10, o11] ∧ (∀ b o, H6 b = some o → b ≠ bx → b ≠ sp → H' b = some o) ∧ BoxAt H' bx ∧
        H' sp = some (.lst its) ∧ All2 (SI2 bx sp K H') its ss ∧ ss.length = i ∧ ∀ s ∈ ss, OkS 3 s ∧ s.need.length ≤ 4 ∧ s.bar.length ≤ 4)
        ⟨[], [], none, none, none, none, none, rfl, fun b o e nb _ => k7 _ _ e nb, b7, k7 _ _ es0 nsb, .nil, rfl, fun s hs => by cases hs⟩ ?_ ?_
      · rintro i σ H8 hi ⟨its, ss, o7, o8, o9, o10, o11, rfl, k8, b8, e8, al8, ln8, ok8⟩
        have hr8 := k8 _ _ hr6 nr nsr
        refine ⟨_, rfl, rl, _, rfl, SqX.lst hr8, fun J S W s0 D hD => ?_⟩
        have nD := ne_bx b8 hD
        refine lc_bx (ds := rings) (f := V.str) W hD b8 (fun H' k => W.keep (fun o e => k _ _ e nr) s0) (fun j z H' ez m => ?_) (fun H9 need k9 b9 e9 sb9 => ?_)
        · refine ⟨rfl, _, rfl, bx, 3, rfl, ⟨by decide, by decide⟩, m.box, fun d H' _ _ k b => ⟨rfl, _, rfl, iteD (fun _ => ?_) (fun _ => ?_)⟩⟩
          · exact ⟨_, rfl, mb_yes m hD nD ez (by omega) k b⟩
          · exact mb_no m nD k b
        have hr9 := k9 _ _ hr8 nr
        refine ⟨fun σ H' => ∃ (B : Addr) (bar : List Str) (o10 : Option V), σ = [some (.ref bx), some (.ref rl), some (.str x), some (.str y), some (.int form), some (.ref g), some (.ref sp), some (.int (0 + (i : Nat))), some (.ref D), some (.ref B), o10, o11] ∧ Kept bx H9 H' ∧ BoxAt H' bx ∧ H9 B = none ∧ H' B = some (.lst (bar.map V.str)) ∧ bar.Sublist rings, ?_, ?_⟩
        · refine ⟨_, rfl, rl, _, rfl, SqX.lst hr9, fun J S W s0 B hB => ?_⟩
          have nB := ne_bx b9 hB
          refine lc_bx (ds := rings) (f := V.str) W hB b9 (fun H' k => W.keep (fun o e => k _ _ e nr) s0) (fun j z H' ez m => ?_) (fun H' bar k b e sb => ⟨B, bar, _, rfl, k, b, hB, e, sb⟩)
          refine ⟨rfl, _, rfl, _, rfl, nin_strs (SqX.lst (m.kept _ _ e9 nD)) ⟨_, rfl, ?_⟩⟩
          cases !decide (z ∈ need) with
          | false => exact iteF (mb_no m nB (Kept.refl _ _) m.box)
          | true =>
            refine iteT ⟨_, rfl, bx, 3, rfl, ⟨by decide, by decide⟩, m.box, fun d H' _ _ k b => ⟨rfl, _, rfl, iteD (fun _ => ?_) (fun _ => ?_)⟩⟩
            · exact ⟨_, rfl, mb_yes m hB nB ez (by omega) k b⟩
            · exact mb_no m nB k b
        rintro σ H10 ⟨B, bar, o10', rfl, k10, b10, hB, e10, sbB⟩
        have k810 := k9.trans k10
        have esp10 := k810 _ _ e8 nsb
        have nDs : D ≠ sp := fun z => by rw [z, e8] at hD; cases hD
        have nBs : B ≠ sp := fun z => by rw [z, k9 _ _ e8 nsb] at hB; cases hB
        have nB := ne_bx b9 hB
        refine ⟨_, rfl, .inl ⟨rfl, _, SqL.of esp10⟩, ?_⟩
        refine ⟨_, rfl, bx, 3, rfl, ⟨by decide, by decide⟩, b10, fun bb H11 p0 p1 k11 b11 => ⟨_, rfl, _, rfl, _, rfl, bx, 3, rfl, ⟨by decide, by decide⟩, b11, fun ee H12 r0 r1 k12 b12 => ⟨by show 4 ≤ sizeLine; decide, fun t ht => ?_⟩⟩⟩
        have k1012 := k11.trans k12
        have t1 := same_new ht (.tup [.int bb, .ref D, .ref B, .int ee])
        have esp13 := t1 _ _ (k1012 _ _ esp10 nsb)
        have fxAll : Fix H8 (upd H12 t (.tup [.int bb, .ref D, .ref B, .int ee])) := (b8.fix (k810.trans k1012)).trans (Fix.of t1)
        have l4 : ∀ {l : List Str}, l.Sublist rings → l.length ≤ 4 := fun h => Nat.le_trans h.length_le rn.2
        have im : ∀ {l : List Str}, l.Sublist rings → ∀ z ∈ l, IsNm z := fun h z hz => nm z (h.subset hz)
        have ilen : its.length = i := by rw [al8.len, ln8]
        refine ⟨sp, _, _, rfl, rfl, esp13, by rw [ilen, sizeLine_eq]; omega, its ++ [.ref t], ss ++ [⟨bb, need, bar, ee⟩], _, _, _, _, _, rfl, fun b o e nb ns => ?_, ?_, upd_same, ?_, by rw [List.length_append, ln8]; rfl, fun s hs => ?_⟩
        · rw [upd_ne ns]; exact t1 _ _ (k1012 _ _ (k810 _ _ (k8 _ _ e nb ns) nb) nb)
        · obtain ⟨g', s', e', r'⟩ := b12.same t1
          exact ⟨g', s', by rw [upd_ne nsb.symm]; exact e', r'⟩
        · have fx2 := fxAll.trans (Fix.lst (o := .lst (its ++ [.ref t])) esp13)
          have nts : t ≠ sp := fun z => by rw [z, k1012 _ _ esp10 nsb] at ht; cases ht
          have w1 : upd (upd H12 t (.tup [.int bb, .ref D, .ref B, .int ee])) sp (.lst (its ++ [.ref t])) t = some (.tup [.int bb, .ref D, .ref B, .int ee]) := by rw [upd_ne nts]; exact upd_same
          have w2 : upd (upd H12 t (.tup [.int bb, .ref D, .ref B, .int ee])) sp (.lst (its ++ [.ref t])) D = some (.lst (need.map V.str)) := by rw [upd_ne nDs]; exact t1 _ _ (k1012 _ _ (k10 _ _ e9 nD) nD)
          have w3 : upd (upd H12 t (.tup [.int bb, .ref D, .ref B, .int ee])) sp (.lst (its ++ [.ref t])) B = some (.lst (bar.map V.str)) := by rw [upd_ne nBs]; exact t1 _ _ (k1012 _ _ e10 nB)
          have w4 : ∀ b o, H8 b = some o → b ≠ bx → b ≠ sp → upd (upd H12 t (.tup [.int bb, .ref D, .ref B, .int ee])) sp (.lst (its ++ [.ref t])) b = some o := fun b o e nb ns => by rw [upd_ne ns]; exact t1 _ _ (k1012 _ _ (k810 _ _ e nb) nb)
          exact (al8.imp fun _ _ h => h.keep fx2 w4).app (.cons ⟨t, D, B, rfl, SqT.of w1, w2, nD, nDs, w3, nB, nBs⟩ .nil)
        · rcases List.mem_append.mp hs with hs | hs
          · exact ok8 s hs
          · rw [List.mem_singleton.mp hs]
            exact ⟨ok_s ⟨p0, p1, r0, r1⟩ (im sb9) (im sbB) (l4 sb9) (l4 sbB), l4 sb9, l4 sbB⟩
      · rintro σ H8 ⟨its, ss, o7, o8, o9, o10, o11, rfl, k8, b8, e8, al8, ln8, ok8⟩
        exact ⟨its, ss, o7, o8, o9, o10, o11, rfl, k8, b8, e8, al8, by omega, ok8⟩
    rintro σ H8 ⟨its, ss, o7, o8, o9, o10, o11, rfl, k8, b8, e8, al8, ln8, ok8⟩
    refine ⟨3, rfl, by decide, by decide, fun D hD => ?_⟩
    have nD := ne_bx b8 hD
    have nDs : D ≠ sp := fun z => by rw [z, e8] at hD; cases hD
    refine lc_bx (ds := [0, 1, 2]) (f := V.int) (J := Itr 0 3) (wk_range (lo := 0) (n := 3) (a := D)) hD b8 (fun _ _ => trivial) (fun j z H' ez m => ?_) (fun H9 good k9 b9 e9 sb9 => ?_)
    · refine ⟨rfl, _, rfl, bx, 2, rfl, ⟨by decide, by decide⟩, m.box, fun d H' _ _ k b => ⟨rfl, _, rfl, iteD (fun _ => ?_) (fun _ => ?_)⟩⟩
      · exact ⟨_, rfl, mb_yes m hD nD ez (by show 3 ≤ 100000; decide) k b⟩
      · exact mb_no m nD k b
    refine ⟨_, rfl, by show 3 ≤ sizeLine; decide, fun T hT => ?_⟩
    have t1 := same_new hT (.tup [.int 3, .ref D, .ref sp])
    have kk : Kept bx H _ := fun b o e nb => t1 _ _ (k9 _ _ (k8 _ _ (u0 _ _ (k05 _ _ e nb)) nb (ne_of_none (k05 _ _ e nb) hsp)) nb)
    refine q _ ⟨3, good, ss⟩ _ kk (b9.same t1) ⟨T, D, sp, its, rfl, SqT.of upd_same, t1 _ _ e9, nD, t1 _ _ (k9 _ _ e8 nsb), nsb, al8.imp fun _ _ h => ((h.sib).kept b8 k9).same t1⟩ (tok (by decide) (sub_lt sb9 (by decide)) sb9.length_le (fun z hz => ?_) ln8 ok8)
    have := sb9.subset hz
    simp only [List.mem_cons, List.not_mem_nil, or_false] at this
    omega
end
end Kd

namespace Kd
open PySem PySem.Spec PyProof.Rows L2 Hb St Sq Ow En
theorem eqv_nil_strs (xs : List Str) : PyData.eqv (.list (xs.map .str)) (.list []) = decide (xs = []) := eqvAll_map eqv_str xs []
theorem hit_law (t : Stp) (s : Int) (lot : List Str) : hit t s lot = (decide (t.b = s) && decide (t.need.filter (fun x => !decide (x ∈ lot)) ++ t.bar.filter (fun x => decide (x ∈ lot)) = [])) := by
  unfold hit
  congr 1
  rw [Bool.eq_iff_iff, decide_eq_true_iff, List.append_eq_nil_iff, List.filter_eq_nil_iff, List.filter_eq_nil_iff, Bool.and_eq_true, all_in, all_out]
  simp
/-- a lot of a tale: a tuple of texts -/
def TL (K : PySem.W.Frag) (H : Hp) (v : V) (lot : List Str) : Prop := ∃ a, v = .ref a ∧ SqT K H a (lot.map V.str) ∧ lot.length ≤ 5 ∧ ∀ x ∈ lot, IsNm x
theorem TL.fix {K : PySem.W.Frag} {H H' : Hp} {v : V} {lot : List Str} (f : Fix H H') (h : TL K H v lot) : TL K H' v lot := let ⟨a, e, q, n⟩ := h; ⟨a, e, tupFix f q, n⟩
theorem TL.tx {K : PySem.W.Frag} {H : Hp} {v : V} {lot : List Str} (h : TL K H v lot) : TX K H v lot := let ⟨a, e, q, _⟩ := h; ⟨a, e, .inr q⟩
section
variable {P : Program} {w : World} {K : PySem.W.Frag} {mg : Str → Option Value} {base : Heap}
/-! ### tuple(sorted(set(x))), step by step -/
def IsSet (P : Program) (w : World) (H : Hp) (b : Addr) (ns : List Str) : Prop := ∃ m, H b = some (SetT P w b m) ∧ m.Nodup ∧ m.length ≤ ns.length ∧ ∀ x, x ∈ m ↔ x ∈ ns
theorem rs1 {H : Hp} {a : Addr} {ns : List Str} {R : VK} (h : SqX K H a (ns.map V.str)) (hl : ns.length ≤ 1000) (q : ∀ b H1, Same H H1 → IsSet P w H1 b ns → R (.ref b) H1) : rSet K P w [.ref a] H R := by
  unfold rSet
  exact .inl ⟨a, ns, rfl, h, hl, fun b m hb nd ml mm => q b _ (same_new hb _) ⟨m, upd_same, nd, ml, mm⟩⟩
theorem rs2 {H : Hp} {b : Addr} {ns : List Str} {R : VK} (h : IsSet P w H b ns) (hl : ns.length ≤ 1000) (q : ∀ p H1, Same H H1 → H1 p = some (.lst ((lotS ns).map V.str)) → R (.ref p) H1) : rSorted2 P w [.ref b] H R := by
  obtain ⟨m, e, nd, ml, mm⟩ := h
  unfold rSorted2
  refine .inl ⟨b, m, rfl, e, Nat.le_trans ml hl, fun ys p pm so hp => ?_⟩
  have e : ys = lotS ns := lotS_eq (sorted_asc so (pm.nodup_iff.mpr nd)) fun x => pm.mem_iff.trans (mm x)
  subst e
  exact q p _ (same_new hp _) upd_same
/-! ### _law_read -/
abbrev s__law_read : Stmt := top 37
theorem sc__law_read : FnScope ["wish", "state", "lot", "one", "need", "bar", "later", "ring"] ["wish", "state", "lot"] (defScope s__law_read) := ⟨rfl, rfl, rfl, by decide +kernel, rfl, by decide +kernel, by decide +kernel⟩
def spRead (K : PySem.W.Frag) : Sp := fun vs H Q _ => ∃ (v l : V) (s : Int) (bx : Addr) (T : Wd) (lot : List Str), vs = [v, .int s, l] ∧ Told bx K H v T ∧ TOk T ∧ TX K H l lot ∧ ∀ H', Same H H' → Q (.int (aft T.steps s lot)) H'
theorem ok_read {f : Addr} {fd : FuncData} (F : Fun K "_law_read" "_law_read" s__law_read f fd)  : FnOk P w K mg base CX0 1 f fd ["wish", "state", "lot"] (spRead K) := by
  refine F.ok sc__law_read (fun vs H Q E h => ?_) (fun cdv A outer s H vs Q E hr h => ?_)
  · obtain ⟨_, _, _, _, _, _, rfl, _⟩ := h
    rfl
  · obtain ⟨_, l, st, bx, T, lot, rfl, ⟨a, g, sa, its, rfl, q0, q1, n1, q2, n2, q3⟩, ok, ⟨la, rfl, hla⟩, q⟩ := h
    refine ⟨_, (Evl.pss_cut (ps_for PassesOwn.never rfl (pi_seq (pe_ix ix_tup (pv 0) pe_int (fun _ _ => rfl))) (pg_tup rfl (pgs_cons (pg_name (i := 3) sc__law_read.nd rfl (Or.inl rfl)) (pgs_cons (pg_name (i := 4) sc__law_read.nd rfl (Or.inl rfl)) (pgs_cons (pg_name (i := 5) sc__law_read.nd rfl (Or.inl rfl)) (pgs_cons (pg_name (i := 6) sc__law_read.nd rfl (Or.inl rfl)) pgs_nil)))))
      (pss_one (ps_if (PW.pt (pw_and (pt_cmpR op_eq (pv 3) (pv 1) (nomark _)) (pw_and1 (pt_cmpR (op_eqD hr.units) (pe_op op_cat (pe_lc (own := [("ring", 7)]) (g := gName 7) rfl sc__law_read.nd (pi_seq (pv 4)) (blkOk_by (N := ["wish", "state", "lot", "one", "need", "bar", "later", "ring"]) (sc := defScope s__law_read) (by decide +kernel)) (fun _ _ _ _ _ => pg_name (i := 7) sc__law_read.nd rfl (Or.inl rfl)) (fun _ _ _ _ _ => pts_one (pt_cmpR (r := rIn K true) op_notIn_seq (pv 7) (pv 2) rfl)) (fun _ _ _ _ _ => pv 7)) (pe_lc (own := [("ring", 7)]) (g := gName 7) rfl sc__law_read.nd (pi_seq (pv 5)) (blkOk_by (N := ["wish", "state", "lot", "one", "need", "bar", "later", "ring"]) (sc := defScope s__law_read) (by decide +kernel)) (fun _ _ _ _ _ => pg_name (i := 7) sc__law_read.nd rfl (Or.inl rfl)) (fun _ _ _ _ _ => pts_one (pt_cmpR (r := rIn K false) op_in_seq (pv 7) (pv 2) rfl)) (fun _ _ _ _ _ => pv 7))) (pe_lst pa_nil) (nomark _))))) (pss_one (ps_ret (pv 6))) pss_nil)))
    (pss_one (ps_ret (pv 1)))), ?_⟩
    refine ⟨fun σ H' => (∃ o3 o4 o5 o6 o7, σ = [some (.ref a), some (.int st), some (.ref la), o3, o4, o5, o6, o7]) ∧ Same H H' ∧ aft T.steps st lot = st, ?_, ?_⟩
    · refine ⟨_, rfl, a, _, _, _, rfl, rfl, q0, rfl, sa, _, rfl, SqX.lst q2, fun J S Wk s0 => ?_⟩
      refine for_sq Wk (fun i σ H' => (∃ o3 o4 o5 o6 o7, σ = [some (.ref a), some (.int st), some (.ref la), o3, o4, o5, o6, o7]) ∧ Same H H' ∧ aft T.steps st lot = aft (T.steps.drop i) st lot) ⟨⟨none, none, none, none, none, rfl⟩, Same.refl _, rfl⟩ (fun i σ H' p => Wk.keep (fun o e => p.2.1 _ _ e) s0) ?_ ?_
      · rintro i σ H1 y ey ⟨⟨o3, o4, o5, o6, o7, rfl⟩, s1, e1⟩
        obtain ⟨d, ed, hd⟩ := q3.get ey
        have okd := ok.sok d (at_mem ed)
        have lnd := ok.ln d (at_mem ed)
        have lbd := ok.lb d (at_mem ed)
        obtain ⟨ya, _, _, rfl, h0, ⟨na, rfl, h1, m1⟩, ra, rfl, h2, m2⟩ := hd.same s1
        have hi : i < T.steps.length := (List.getElem?_eq_some_iff.mp ed).1
        have edr : T.steps.drop i = d :: T.steps.drop (i + 1) := by rw [List.drop_eq_getElem_cons hi, (List.getElem?_eq_some_iff.mp ed).2]
        rw [edr] at e1
        refine ⟨ya, _, rfl, h0, rfl, _, _, rfl, _, _, rfl, _, _, rfl, _, _, rfl, rfl, ?_⟩
        refine ⟨_, rfl, _, rfl, rfl, _, rfl, ?_⟩
        have ee : decide (V.int d.b = V.int st) = decide (d.b = st) := decide_eq_decide.mpr (by simp)
        rw [ee]
        by_cases c0 : d.b = st
        · rw [decide_eq_true c0]
          refine iteT ⟨_, rfl, na, _, rfl, SqX.lst h1, fun J2 S2 W2 z2 D hD => ?_⟩
          refine lc_mf (ds := d.need) W2 (fun x => !decide (x ∈ lot)) (fun _ y x => y = .str x) z2 hD (by simp) (fun j x x' H' ex ex' s m => ?_) (fun H2 ys s2 e2 al2 => ?_)
          · rw [at_map ex ex']
            refine ⟨rfl, _, rfl, _, rfl, nin_strs (sqxSame (s1.trans s) hla) ⟨_, rfl, ?_⟩⟩
            cases c : !decide (x' ∈ lot) with
            | true => exact iteT ⟨_, rfl, mf_yes m hD (fun _ _ _ _ _ h => h) ex' (by omega) (Same.refl _) c rfl⟩
            | false => exact iteF (mf_no m (fun _ _ _ _ _ h => h) ex' (Same.refl _) c)
          have ey2 := al2.map_eq (f := V.str) fun _ _ h => h
          subst ey2
          refine ⟨_, rfl, ra, _, rfl, SqX.lst (s2 _ _ h2), fun J3 S3 W3 z3 D2 hD2 => ?_⟩
          refine lc_mf (ds := d.bar) W3 (fun x => decide (x ∈ lot)) (fun _ y x => y = .str x) z3 hD2 (by simp) (fun j x x' H' ex ex' s m => ?_) (fun H3 ys s3 e3 al3 => ?_)
          · rw [at_map ex ex']
            refine ⟨rfl, _, rfl, _, rfl, in_strs (sqxSame ((s1.trans s2).trans s) hla) ⟨_, rfl, ?_⟩⟩
            cases c : decide (x' ∈ lot) with
            | true => exact iteT ⟨_, rfl, mf_yes m hD2 (fun _ _ _ _ _ h => h) ex' (by omega) (Same.refl _) c rfl⟩
            | false => exact iteF (mf_no m (fun _ _ _ _ _ h => h) ex' (Same.refl _) c)
          have ey3 := al3.map_eq (f := V.str) fun _ _ h => h
          subst ey3
          have f1 := List.length_filter_le (fun x => !decide (x ∈ lot)) d.need
          have f2 := List.length_filter_le (fun x => decide (x ∈ lot)) d.bar
          refine ⟨D, D2, _, _, rfl, rfl, s3 _ _ e2, e3, by rw [List.length_map, List.length_map, sizeLine_eq]; omega, fun p hp => ⟨Nat.zero_le _, fun r hr' => ?_⟩⟩
          have t1 := same_new hp (.lst ((d.need.filter fun x => !decide (x ∈ lot)).map V.str ++ (d.bar.filter fun x => decide (x ∈ lot)).map V.str))
          have t2 := same_new hr' (.lst [])
          have ep := t2 _ _ (show (upd H3 p (.lst ((d.need.filter fun x => !decide (x ∈ lot)).map V.str ++ (d.bar.filter fun x => decide (x ∈ lot)).map V.str))) p = _ from upd_same)
          replace ep := ep.trans (congrArg (fun l => some (HO.lst l)) List.map_append.symm)
          have hsh : Sh 1 (.list ((d.need.filter (fun x => !decide (x ∈ lot)) ++ d.bar.filter (fun x => decide (x ∈ lot))).map PyData.str)) := sh_lst fun x hx => sh_str ((List.mem_append.mp hx).elim (fun h => okd.nn x (List.mem_filter.mp h).1) fun h => okd.nb x (List.mem_filter.mp h).1)
          refine ⟨_, _, .lst (SqL.of ep) (dp_strs _), .lst (SqL.of upd_same) .nil, hsh.ok (by decide), by decide, _, rfl, ?_⟩
          rw [eqv_nil_strs]
          have hh := hit_law d st lot
          rw [decide_eq_true c0, Bool.true_and] at hh
          rw [← hh]
          have s4 := ((s1.trans s2).trans s3).trans (t1.trans t2)
          cases ch : hit d st lot with
          | true =>
            refine iteT ⟨_, rfl, ?_⟩
            have e5 : aft T.steps st lot = d.e := by rw [e1]; show (if hit d st lot = true then _ else _) = _; rw [ch]; rfl
            rw [← e5]
            exact q _ s4
          | false =>
            refine iteF ⟨⟨_, _, _, _, _, rfl⟩, s4, ?_⟩
            rw [e1]; show (if hit d st lot = true then _ else _) = _; rw [ch]; rfl
        · rw [decide_eq_false c0]
          refine iteF ⟨⟨_, _, _, _, _, rfl⟩, s1, ?_⟩
          rw [e1]; show (if hit d st lot = true then _ else _) = _; unfold hit; rw [decide_eq_false c0]; rfl
      · rintro σ H1 ⟨p, s1, e1⟩
        refine ⟨p, s1, ?_⟩
        rw [e1, q3.len, List.drop_length]; rfl
    rintro σ H1 ⟨⟨o3, o4, o5, o6, o7, rfl⟩, s1, e1⟩
    refine ⟨_, rfl, ?_⟩
    have := q H1 s1
    rw [e1] at this
    exact this
/-! ### _law_end -/
abbrev s__law_end : Stmt := top 39
theorem sc__law_end : FnScope ["wish", "tale", "state", "lot"] ["wish", "tale"] (defScope s__law_end) := ⟨rfl, rfl, rfl, by decide +kernel, rfl, by decide +kernel, by decide +kernel⟩
def spLEnd (K : PySem.W.Frag) : Sp := fun vs H Q _ => ∃ (v : V) (ta bx : Addr) (T : Wd) (its : List V) (tale : List (List Str)), vs = [v, .ref ta] ∧ Told bx K H v T ∧ TOk T ∧ SqX K H ta its ∧ All2 (TX K H) its tale ∧ ∀ H', Same H H' → Q (.int (endW T.steps 0 tale)) H'
theorem ok_lend {f : Addr} {fd : FuncData} (F : Fun K "_law_end" "_law_end" s__law_end f fd) (C__law_read : Cl P w K mg base "_law_read" ["wish", "state", "lot"] [] 1 (spRead K)) : FnOk P w K mg base CX0 2 f fd ["wish", "tale"] (spLEnd K) := by
  refine F.ok sc__law_end (fun vs H Q E h => ?_) (fun cdv A outer s H vs Q E hr h => ?_)
  · obtain ⟨_, _, _, _, _, _, rfl, _⟩ := h
    rfl
  · obtain ⟨v, ta, bx, T, its, tale, rfl, hT, ok, ht, hTl, q⟩ := h
    refine ⟨_, (pss_cons (ps_set (i := 2) sc__law_end.nd rfl (Or.inl rfl) pe_int)
    (Evl.pss_cut (ps_for PassesOwn.never rfl (pi_seq (pv 1)) (pg_name (i := 3) sc__law_end.nd rfl (Or.inl rfl))
      (pss_one (ps_set (i := 2) sc__law_end.nd rfl (Or.inl rfl) (pe_use C__law_read (hr.mono (by decide)) rfl (pa_cons (pv 0) (pa_cons (pv 2) (pa_cons (pv 3) pa_nil)))))))
    (pss_one (ps_ret (pv 2))))), ?_⟩
    refine ⟨fun σ H' => ∃ o, σ = [some v, some (.ref ta), some (.int (endW T.steps 0 tale)), o] ∧ Same H H', ?_, ?_⟩
    · refine ⟨_, rfl, ta, _, rfl, ht, fun J S Wk s0 => ?_⟩
      refine for_sq Wk (fun i σ H' => ∃ o, σ = [some v, some (.ref ta), some (.int (endW T.steps 0 (tale.take i))), o] ∧ Same H H') ⟨none, rfl, Same.refl _⟩ (fun i σ H' p => Wk.keep (fun o e => let ⟨_, _, s⟩ := p; s _ _ e) s0) ?_ ?_
      · rintro i σ H1 y ey ⟨o, rfl, s1⟩
        obtain ⟨d, ed, hd⟩ := hTl.get ey
        refine ⟨_, rfl, _, rfl, _, rfl, v, y, _, bx, T, d, rfl, hT.same s1, ok, hd.same s1, fun H2 s2 => ⟨some y, ?_, s1.trans s2⟩⟩
        rw [List.take_add_one, ed]
        show _ = [_, _, some (V.int (endW T.steps 0 (tale.take i ++ [d]))), _]
        rw [endW_snoc]; rfl
      · rintro σ H1 ⟨o, rfl, s1⟩
        exact ⟨o, by rw [hTl.len, List.take_length], s1⟩
    rintro σ H1 ⟨o, rfl, s1⟩
    exact ⟨_, rfl, q H1 s1⟩
/-! ### _law_sorted_steps -/
abbrev s__law_sorted_steps : Stmt := top 42
theorem sc__law_sorted_steps : FnScope ["told", "one", "need", "bar", "two"] ["told"] (defScope s__law_sorted_steps) := ⟨rfl, rfl, rfl, by decide +kernel, rfl, by decide +kernel, by decide +kernel⟩
def spSorted (K : PySem.W.Frag) : Sp := fun vs H Q _ => ∃ (v : V) (bx : Addr) (T : Wd), vs = [v] ∧ Told bx K H v T ∧ TOk T ∧ ∀ p its H', Same H H' → H' p = some (.tup its) → All2 (SP K H') its (T.steps.map nrm) → Q (.ref p) H'
theorem ok_sorted {f : Addr} {fd : FuncData} (F : Fun K "_law_sorted_steps" "_law_sorted_steps" s__law_sorted_steps f fd) (n_set : mg "set" = none) (n_sorted : mg "sorted" = none) (n_tuple : mg "tuple" = none) : FnOk P w K mg base CX0 1 f fd ["told"] (spSorted K) := by
  refine F.ok sc__law_sorted_steps (fun vs H Q E h => ?_) (fun cdv A outer s H vs Q E hr h => ?_)
  · obtain ⟨_, _, _, rfl, _⟩ := h
    rfl
  · obtain ⟨_, bx, T, rfl, ⟨a, g, sa, its, rfl, q0, q1, n1, q2, n2, q3⟩, ok, q⟩ := h
    refine ⟨_, (pss_one (ps_ret (pe_callTy call_tuple_of (by rfl) n_tuple (by decide +kernel) (pa_cons (pe_lc (own := [("one", 1), ("need", 2), ("bar", 3), ("two", 4)]) (g := gTup K 4 (gCons (gName 1) (gCons (gName 2) (gCons (gName 3) (gCons (gName 4) gNil))))) rfl sc__law_sorted_steps.nd (pi_seq (pe_ix ix_tup (pv 0) pe_int (fun _ _ => rfl))) (blkOk_by (N := ["told", "one", "need", "bar", "two"]) (sc := defScope s__law_sorted_steps) (by decide +kernel)) (fun _ _ _ _ _ => pg_tup rfl (pgs_cons (pg_name (i := 1) sc__law_sorted_steps.nd rfl (Or.inl rfl)) (pgs_cons (pg_name (i := 2) sc__law_sorted_steps.nd rfl (Or.inl rfl)) (pgs_cons (pg_name (i := 3) sc__law_sorted_steps.nd rfl (Or.inl rfl)) (pgs_cons (pg_name (i := 4) sc__law_sorted_steps.nd rfl (Or.inl rfl)) pgs_nil))))) (fun _ _ _ _ _ => pts_nil) (fun _ _ _ _ _ => pe_tup (pa_cons (pv 1) (pa_cons (pe_callTy (T := "tuple") (r := rTupE K) call_tupE (by rfl) n_tuple (by decide +kernel) (pa_cons (pe_callB (id := "sorted") (r := rSorted2 P w) (cr_sorted2 rfl) (by rfl) n_sorted (by decide +kernel) (pa_cons (pe_callTy (T := "set") (r := rSet K P w) (cr_set rfl) (by rfl) n_set (by decide +kernel) (pa_cons (pv 2) pa_nil)) pa_nil)) pa_nil)) (pa_cons (pe_callTy (T := "tuple") (r := rTupE K) call_tupE (by rfl) n_tuple (by decide +kernel) (pa_cons (pe_callB (id := "sorted") (r := rSorted2 P w) (cr_sorted2 rfl) (by rfl) n_sorted (by decide +kernel) (pa_cons (pe_callTy (T := "set") (r := rSet K P w) (cr_set rfl) (by rfl) n_set (by decide +kernel) (pa_cons (pv 3) pa_nil)) pa_nil)) pa_nil)) (pa_cons (pv 4) pa_nil)))))) pa_nil)))), ?_⟩
    refine ⟨_, rfl, a, _, _, _, rfl, rfl, q0, rfl, sa, _, rfl, SqX.lst q2, fun J S Wk s0 D hD => ?_⟩
    have s4 := ok.s4
    refine lc_mf (ds := T.steps) Wk (fun _ => true) (fun H y d => SP K H y (nrm d)) s0 hD q3.len (fun i y d H' ey ed s m => ?_) (fun H' ys s e al => ?_)
    · obtain ⟨d', ed', hd⟩ := q3.get ey
      obtain rfl : d' = d := Option.some.inj (ed'.symm.trans ed)
      have o := ok.sok d' (at_mem ed)
      obtain ⟨ya, _, _, rfl, h0, ⟨na, rfl, h1, m1⟩, ra, rfl, h2, m2⟩ := hd.same s
      refine ⟨ya, _, rfl, h0, rfl, _, _, rfl, _, _, rfl, _, _, rfl, _, _, rfl, rfl, rfl, ?_⟩
      refine ⟨_, rfl, _, rfl, rs1 (SqX.lst h1) (Nat.le_trans o.ln (by decide)) fun b1 G1 r1 i1 => ?_⟩
      refine rs2 i1 (Nat.le_trans o.ln (by decide)) fun c1 G2 r2 j1 => ⟨c1, _, rfl, .inl ⟨SqL.of j1, fun p1 hp1 => ?_⟩⟩
      have t1 := (r1.trans r2).trans (same_new hp1 (.tup ((lotS d'.need).map V.str)))
      have e1 : upd G2 p1 (.tup ((lotS d'.need).map V.str)) p1 = some (.tup ((lotS d'.need).map V.str)) := upd_same
      generalize upd G2 p1 (.tup ((lotS d'.need).map V.str)) = F1 at t1 e1 ⊢
      refine ⟨_, rfl, rs1 (SqX.lst (t1 _ _ h2)) (Nat.le_trans o.lb (by decide)) fun b2 G3 r3 i2 => ?_⟩
      refine rs2 i2 (Nat.le_trans o.lb (by decide)) fun c2 G4 r4 j2 => ⟨c2, _, rfl, .inl ⟨SqL.of j2, fun p2 hp2 => ?_⟩⟩
      have t2 := (r3.trans r4).trans (same_new hp2 (.tup ((lotS d'.bar).map V.str)))
      have e2 : upd G4 p2 (.tup ((lotS d'.bar).map V.str)) p2 = some (.tup ((lotS d'.bar).map V.str)) := upd_same
      generalize upd G4 p2 (.tup ((lotS d'.bar).map V.str)) = F2 at t2 e2 ⊢
      refine ⟨_, rfl, by show 4 ≤ sizeLine; decide, fun t ht => ?_⟩
      have t3 := same_new ht (.tup [.int d'.b, .ref p1, .ref p2, .int d'.e])
      exact mf_yes m hD (fun _ _ _ _ f h => SP.fix f h) ed (by omega) ((t1.trans t2).trans t3) rfl ⟨t, .ref p1, .ref p2, rfl, SqT.of upd_same, ⟨p1, rfl, SqT.of (t3 _ _ (t2 _ _ e1)), Nat.le_trans (len_lotS _) o.ln, fun x hx => o.nn x (mem_lotS.mp hx)⟩, ⟨p2, rfl, SqT.of (t3 _ _ e2), Nat.le_trans (len_lotS _) o.lb, fun x hx => o.nb x (mem_lotS.mp hx)⟩⟩
    · rw [List.filter_eq_self.mpr fun _ _ => rfl] at al
      refine ⟨D, ys, rfl, .inl ⟨SqL.of e, fun l hl => ?_⟩⟩
      have sl := same_new hl (.tup ys)
      exact q l ys _ (s.trans sl) upd_same ((al.imp fun _ _ h => h.fix (Fix.of sl)).of_mapR nrm)
/-! ### _law_lots -/
abbrev s__law_lots : Stmt := top 38
theorem sc__law_lots : FnScope ["box", "rings", "many", "found", "turn", "lot", "ring"] ["box", "rings", "many"] (defScope s__law_lots) := ⟨rfl, rfl, rfl, by decide +kernel, rfl, by decide +kernel, by decide +kernel⟩
def spLots (K : PySem.W.Frag) : Sp := fun vs H Q _ => ∃ (bx rl : Addr) (rings : List Str) (many : Int), vs = [.ref bx, .ref rl, .int many] ∧ BoxAt H bx ∧ H rl = some (.lst (rings.map V.str)) ∧ rl ≠ bx ∧ (1 ≤ rings.length ∧ rings.length ≤ 5) ∧ (∀ x ∈ rings, IsNm x) ∧ (0 ≤ many ∧ many ≤ 6) ∧
  ∀ p its tale H', Kept bx H H' → BoxAt H' bx → H p = none → H' p = some (.tup its) → All2 (TL K H') its tale → tale.length ≤ 6 → Q (.ref p) H'
theorem ok_lots {f : Addr} {fd : FuncData} (F : Fun K "_law_lots" "_law_lots" s__law_lots f fd) (C__law_pick : Cl P w K mg base "_law_pick" ["box", "some"] [] 2 spPick) (C__law_take : Cl P w K mg base "_law_take" ["box", "many"] [] 1 spTake) (n_range : mg "range" = none) (n_sorted : mg "sorted" = none) (n_tuple : mg "tuple" = none) : FnOk P w K mg base CX0 3 f fd ["box", "rings", "many"] (spLots K) := by
  refine F.ok sc__law_lots (fun vs H Q E h => ?_) (fun cdv A outer s H vs Q E hr h => ?_)
  · obtain ⟨_, _, _, _, rfl, _⟩ := h
    rfl
  · obtain ⟨bx, rl, rings, many, rfl, hb, hr0, nr, rn, nm, hm, q⟩ := h
    refine ⟨_, (pss_cons (ps_set (i := 3) sc__law_lots.nd rfl (Or.inl rfl) (pe_lst pa_nil))
    (Evl.pss_cut (ps_for PassesOwn.never rfl (pi_range1 (by rfl) n_range (pa_cons (pv 2) pa_nil)) (pg_name (i := 4) sc__law_lots.nd rfl (Or.inl rfl))
      (Evl.pss_cut (ps_setLc (i := 5) (own := [("ring", 6)]) (g := gName 6) (by rfl) sc__law_lots.nd rfl rfl (sw_true rfl rfl rfl (by decide +kernel)) (pi_seq (pv 1)) (blkOk_by (N := ["box", "rings", "many", "found", "turn", "lot", "ring"]) (sc := defScope s__law_lots) (by decide +kernel)) (fun _ _ _ _ _ => pg_name (i := 6) sc__law_lots.nd rfl (Or.inl rfl)) (fun _ _ _ _ _ => pts_one (pt_cmpR op_lt (pe_use C__law_take (hr.mono (by decide)) rfl (pa_cons (pv 0) (pa_cons pe_int pa_nil))) pe_int (nomark _))) (fun _ _ _ _ _ => pv 6))
    (pss_one (ps_expr (pe_bm PySem.F.plainAttrs_list PySem.F.slot_list_append PySem.F.type_list_append mt_append (pv 3) (pa_cons (pe_callTy call_tuple_of (by rfl) n_tuple (by decide +kernel) (pa_cons (pe_callB cr_sortedS (by rfl) n_sorted (by decide +kernel) (pa_cons (pe_ifExp (pt_cmpR (op_neD hr.units) (pv 5) (pe_lst pa_nil) (nomark _)) (pv 5) (pe_lst (pa_cons (pe_use C__law_pick (hr.mono (by decide)) rfl (pa_cons (pv 0) (pa_cons (pv 1) pa_nil))) pa_nil))) pa_nil)) pa_nil)) pa_nil))))))
    (pss_one (ps_ret (pe_callTy call_tuple_of (by rfl) n_tuple (by decide +kernel) (pa_cons (pv 3) pa_nil)))))), ?_⟩
    refine ⟨Nat.zero_le _, fun fp hfp => ?_⟩
    have u0 := same_new hfp (.lst [])
    have ef0 : upd H fp (.lst []) fp = some (.lst []) := upd_same
    have nfb := ne_bx hb hfp
    have nfr : rl ≠ fp := ne_of_none hr0 hfp
    have b0 := hb.same u0
    have hr1 := u0 _ _ hr0
    generalize upd H fp (.lst []) = H0 at u0 ef0 b0 hr1 ⊢
    refine ⟨fun σ H' => ∃ (its : List V) (tale : List (List Str)) (o4 o5 o6 : Option V), σ = [some (.ref bx), some (.ref rl), some (.int many), some (.ref fp), o4, o5, o6] ∧ (∀ b o, H0 b = some o → b ≠ bx → b ≠ fp → H' b = some o) ∧ BoxAt H' bx ∧ H' fp = some (.lst its) ∧ All2 (TL K H') its tale ∧ tale.length ≤ 6, ?_, ?_⟩
    · refine ⟨_, rfl, many, rfl, by omega, by omega, ?_⟩
      refine for_range (n := many.toNat) (fun i σ H' => ∃ (its : List V) (tale : List (List Str)) (o4 o5 o6 : Option V), σ = [some (.ref bx), some (.ref rl), some (.int many), some (.ref fp), o4, o5, o6] ∧ (∀ b o, H0 b = some o → b ≠ bx → b ≠ fp → H' b = some o) ∧ BoxAt H' bx ∧ H' fp = some (.lst its) ∧ All2 (TL K H') its tale ∧ tale.length = i)
        ⟨[], [], none, none, none, rfl, fun _ _ e _ _ => e, b0, ef0, .nil, rfl⟩ ?_ ?_
      · rintro i σ H1 hi ⟨its, tale, o4, o5, o6, rfl, k1, b1, e1, al1, ln1⟩
        have hr2 := k1 _ _ hr1 nr nfr
        refine ⟨fun σ H' => ∃ (D : Addr) (lot : List Str) (o6 : Option V), σ = [some (.ref bx), some (.ref rl), some (.int many), some (.ref fp), some (.int (0 + (i : Nat))), some (.ref D), o6] ∧ Kept bx H1 H' ∧ BoxAt H' bx ∧ D ≠ bx ∧ H' D = some (.lst (lot.map V.str)) ∧ lot.Sublist rings, ?_, ?_⟩
        · refine ⟨_, rfl, rl, _, rfl, SqX.lst hr2, fun J S W s0 D hD => ?_⟩
          have nD := ne_bx b1 hD
          refine lc_bx (ds := rings) (f := V.str) W hD b1 (fun H' k => W.keep (fun o e => k _ _ e nr) s0) (fun j z H' ez m => ?_) (fun H' lot k b e sb => ⟨D, lot, _, rfl, k, b, nD, e, sb⟩)
          refine ⟨rfl, _, rfl, bx, 5, rfl, ⟨by decide, by decide⟩, m.box, fun d H' _ _ k b => ⟨_, _, rfl, rfl, _, rfl, iteD (fun _ => ?_) (fun _ => ?_)⟩⟩
          · exact ⟨_, rfl, mb_yes m hD nD ez (by omega) k b⟩
          · exact mb_no m nD k b
        rintro σ H2 ⟨D, lot, o6', rfl, k2, b2, nD, eD, sb⟩
        have ef2 := k2 _ _ e1 nfb
        have hr3 := k2 _ _ hr2 nr
        refine ⟨_, rfl, .inl ⟨rfl, _, SqL.of ef2⟩, ?_⟩
        have hsh : Sh 1 (.list (lot.map PyData.str)) := sh_lst fun x hx => sh_str (nm x (sb.subset hx))
        have ilen : its.length = i := by rw [al1.len, ln1]
        -- the sorted lot, as a tuple, goes to found
        have fin2 : ∀ (H5 : Hp) (l : Addr) (ys : List Str), (ys.length ≤ 5 ∧ ∀ x ∈ ys, IsNm x) → Kept bx H2 H5 → BoxAt H5 bx → H5 l = some (.tup (ys.map V.str)) → H5 fp = some (.lst its) ∧ (∀ b o, H0 b = some o → b ≠ bx → b ≠ fp → upd H5 fp (.lst (its ++ [.ref l])) b = some o) ∧ BoxAt (upd H5 fp (.lst (its ++ [.ref l]))) bx ∧ All2 (TL K (upd H5 fp (.lst (its ++ [.ref l])))) (its ++ [.ref l]) (tale ++ [ys]) := fun H5 l ys nmy k5 b5 e5 => by
          have ef5 := k5 _ _ ef2 nfb
          have fx : Fix H5 (upd H5 fp (.lst (its ++ [.ref l]))) := Fix.lst ef5
          refine ⟨ef5, fun b o e nb nf => ?_, ?_, ?_⟩
          · rw [upd_ne nf]; exact k5 _ _ (k2 _ _ (k1 _ _ e nb nf) nb) nb
          · obtain ⟨g', s', e', r'⟩ := b5
            exact ⟨g', s', by rw [upd_ne nfb.symm]; exact e', r'⟩
          · exact (al1.imp fun _ _ h => h.fix ((b1.fix (k2.trans k5)).trans fx)).app (.cons ⟨l, rfl, tupFix fx (SqT.of e5), nmy⟩ .nil)
        have tail : ∀ (H3 : Hp) (src : Addr) (l2 : List Str), Kept bx H2 H3 → BoxAt H3 bx → H3 src = some (.lst (l2.map V.str)) → l2.length ≤ 5 → ∀ (ys : List Str) (p : Addr), ys.Perm l2 → H3 p = none → ∀ l, upd H3 p (.lst (ys.map V.str)) l = none →
            (upd (upd H3 p (.lst (ys.map V.str))) l (.tup (ys.map V.str))) l = some (.tup (ys.map V.str)) ∧ Kept bx H2 (upd (upd H3 p (.lst (ys.map V.str))) l (.tup (ys.map V.str))) ∧ BoxAt (upd (upd H3 p (.lst (ys.map V.str))) l (.tup (ys.map V.str))) bx := fun H3 src l2 k3 b3 _ _ ys p _ hp l hl => by
          have t1 := same_new hp (.lst (ys.map V.str))
          have t2 := same_new hl (.tup (ys.map V.str))
          exact ⟨upd_same, k3.trans (Hb.Same.kept (t1.trans t2)), b3.same (t1.trans t2)⟩
        refine ⟨_, rfl, Nat.zero_le _, fun nl hnl => ?_⟩
        have tn := same_new hnl (.lst [])
        have en : upd H2 nl (.lst []) nl = some (.lst []) := upd_same
        generalize upd H2 nl (.lst []) = H3 at tn en ⊢
        refine ⟨_, _, .lst (SqL.of (tn _ _ eD)) (dp_strs _), .lst (SqL.of en) .nil, hsh.ok (by decide), by decide, _, rfl, ?_⟩
        rw [eqv_nil_strs]
        have lot5 := Nat.le_trans sb.length_le rn.2
        by_cases c : lot = []
        · rw [decide_eq_true c]
          refine iteF ⟨_, rfl, _, rfl, bx, rl, rings, rfl, b2.same tn, tn _ _ hr3, nr, ⟨rn.1, by omega⟩, fun x H4 hx k4 b4 => ⟨by show 1 ≤ sizeLine; decide, fun src hs => ?_⟩⟩
          have ts := same_new hs (.lst [V.str x])
          have es : upd H4 src (.lst [V.str x]) src = some (.lst ([x].map V.str)) := upd_same
          refine ⟨src, [x], rfl, SqL.of es, by show 1 < 64; decide, fun ys p pm so hp => ⟨p, _, rfl, .inl ⟨SqL.of upd_same, fun l hl => ?_⟩⟩⟩
          obtain ⟨x1, x2, x3⟩ := tail _ src [x] ((Hb.Same.kept tn).trans (k4.trans (Hb.Same.kept ts))) (b4.same ts) es (by show 1 ≤ 5; decide) ys p pm hp l hl
          obtain ⟨y1, y2, y3, y4⟩ := fin2 _ l ys ⟨by rw [pm.length_eq]; show 1 ≤ 5; decide, fun z hz => by rw [List.mem_singleton.mp (pm.mem_iff.mp hz)]; exact nm x hx⟩ x2 x3 x1
          exact ⟨fp, its, _, rfl, rfl, y1, by rw [ilen, sizeLine_eq]; omega, its ++ [.ref l], tale ++ [ys], _, _, _, rfl, y2, y3, upd_same, y4, by rw [List.length_append, ln1]; rfl⟩
        · rw [decide_eq_false c]
          refine iteT ⟨_, rfl, D, lot, rfl, SqL.of (tn _ _ eD), by omega, fun ys p pm so hp => ⟨p, _, rfl, .inl ⟨SqL.of upd_same, fun l hl => ?_⟩⟩⟩
          obtain ⟨x1, x2, x3⟩ := tail _ D lot (Hb.Same.kept tn) (b2.same tn) (tn _ _ eD) lot5 ys p pm hp l hl
          obtain ⟨y1, y2, y3, y4⟩ := fin2 _ l ys ⟨by rw [pm.length_eq]; exact lot5, fun z hz => nm z (sb.subset (pm.mem_iff.mp hz))⟩ x2 x3 x1
          exact ⟨fp, its, _, rfl, rfl, y1, by rw [ilen, sizeLine_eq]; omega, its ++ [.ref l], tale ++ [ys], _, _, _, rfl, y2, y3, upd_same, y4, by rw [List.length_append, ln1]; rfl⟩
      · rintro σ H1 ⟨its, tale, o4, o5, o6, rfl, k1, b1, e1, al1, ln1⟩
        exact ⟨its, tale, o4, o5, o6, rfl, k1, b1, e1, al1, by omega⟩
    rintro σ H1 ⟨its, tale, o4, o5, o6, rfl, k1, b1, e1, al1, ln1⟩
    refine ⟨_, rfl, fp, its, rfl, .inl ⟨SqL.of e1, fun p hp => ?_⟩⟩
    have t1 := same_new hp (.tup its)
    have kk : Kept bx H H1 := fun b o e nb => k1 _ _ (u0 _ _ e) nb (ne_of_none e hfp)
    have hp0 : H p = none := by
      cases e : H p with
      | none => rfl
      | some o =>
        by_cases z : p = bx
        · obtain ⟨_, _, e3, _⟩ := b1
          rw [z, e3] at hp; cases hp
        · rw [kk _ _ e z] at hp; cases hp
    exact q p its tale _ (kk.trans (Hb.Same.kept t1)) (b1.same t1) hp0 upd_same (al1.imp fun _ _ h => h.fix (Fix.of t1)) ln1
end
end Kd

namespace Kd
open PySem PySem.Spec PyProof.Rows L2 Hb St Sq Ow En
/-! ### what the makers' wishes take -/
def takesW (W : Wd) (tale : List (List Str)) : Bool := decide (endW W.steps 0 tale ∈ W.good)
theorem hit_nrm (t : Stp) (s : Int) (lot : List Str) : hit (nrm t) s lot = hit t s lot := by
  unfold hit nrm
  rw [Bool.eq_iff_iff, Bool.and_eq_true, Bool.and_eq_true, Bool.and_eq_true, Bool.and_eq_true, all_in, all_out, all_in, all_out]
  simp only [mem_lotS]
theorem aft_nrm (s : Int) (lot : List Str) : ∀ ss : List Stp, aft (ss.map nrm) s lot = aft ss s lot
  | [] => rfl
  | t :: r => by
    show (if hit (nrm t) s lot = true then t.e else aft (r.map nrm) s lot) = if hit t s lot = true then t.e else aft r s lot
    rw [hit_nrm, aft_nrm s lot r]
theorem endW_nrm (ss : List Stp) : ∀ (s : Int) (tale : List (List Str)), endW (ss.map nrm) s tale = endW ss s tale
  | s, [] => rfl
  | s, l :: r => by
    show endW (ss.map nrm) (aft (ss.map nrm) s l) r = endW ss (aft ss s l) r
    rw [aft_nrm, endW_nrm ss]
theorem takes_mk (n : Int) (gs : List Int) (ss : List Stp) (tale : List (List Str)) : takesW (mkW n gs ss) tale = decide (endW ss 0 tale ∈ gs) := by
  unfold takesW mkW
  rw [endW_nrm]
  exact decide_eq_decide.mpr mem_lotI
theorem aft_no {ss : List Stp} {s : Int} {lot : List Str} (h : ∀ t ∈ ss, hit t s lot = false) : aft ss s lot = s := by
  induction ss with
  | nil => rfl
  | cons t r ih =>
    show (if hit t s lot = true then t.e else aft r s lot) = s
    rw [h t List.mem_cons_self, if_neg Bool.false_ne_true]
    exact ih fun u hu => h u (List.mem_cons_of_mem _ hu)
theorem aft_hit {ss : List Stp} {s v : Int} {lot : List Str} (h : ∀ t ∈ ss, hit t s lot = true → t.e = v) (ex : ∃ t ∈ ss, hit t s lot = true) : aft ss s lot = v := by
  induction ss with
  | nil => obtain ⟨t, ht, _⟩ := ex; cases ht
  | cons t r ih =>
    show (if hit t s lot = true then t.e else aft r s lot) = v
    by_cases c : hit t s lot = true
    · rw [if_pos c]; exact h t List.mem_cons_self c
    · rw [if_neg c]
      refine ih (fun u hu => h u (List.mem_cons_of_mem _ hu)) ?_
      obtain ⟨u, hu, k⟩ := ex
      rcases List.mem_cons.mp hu with rfl | hu
      · exact absurd k c
      · exact ⟨u, hu, k⟩
/-! rings -/
def cnt (x : Str) (tale : List (List Str)) : Nat := (tale.filter fun l => decide (x ∈ l)).length
def rgS (x : Str) (n : Nat) : List Stp := (List.range n).map fun (k : Nat) => ⟨k, [x], [], k + 1⟩
theorem hit_rg (x : Str) (k : Nat) (s : Int) (lot : List Str) : hit ⟨k, [x], [], k + 1⟩ s lot = (decide ((k : Int) = s) && decide (x ∈ lot)) := by
  unfold hit
  simp
theorem aft_rg (x : Str) (n s : Nat) (hs : s ≤ n) (lot : List Str) : aft (rgS x n) (s : Nat) lot = ((if x ∈ lot ∧ s < n then s + 1 else s : Nat) : Int) := by
  by_cases c : x ∈ lot ∧ s < n
  · rw [if_pos c]
    refine aft_hit (fun t ht k => ?_) ⟨⟨(s : Nat), [x], [], s + 1⟩, List.mem_map.mpr ⟨s, List.mem_range.mpr c.2, rfl⟩, by rw [hit_rg]; simp [c.1]⟩
    obtain ⟨j, hj, rfl⟩ := List.mem_map.mp ht
    rw [hit_rg, Bool.and_eq_true, decide_eq_true_iff] at k
    show (j : Int) + 1 = _
    omega
  · rw [if_neg c]
    refine aft_no fun t ht => ?_
    obtain ⟨j, hj, rfl⟩ := List.mem_map.mp ht
    have := List.mem_range.mp hj
    rw [hit_rg]
    by_cases e : (j : Int) = (s : Nat)
    · have : x ∉ lot := fun z => c ⟨z, by omega⟩
      rw [decide_eq_false this, Bool.and_false]
    · rw [decide_eq_false e]; rfl
theorem end_rg (x : Str) (n : Nat) : ∀ (tale : List (List Str)) (s : Nat), s ≤ n → endW (rgS x n) (s : Nat) tale = ((min (s + cnt x tale) n : Nat) : Int)
  | [], s, hs => by
    show ((s : Nat) : Int) = _
    unfold cnt
    simp only [List.filter_nil, List.length_nil]
    congr 1; omega
  | l :: r, s, hs => by
    show endW (rgS x n) (aft (rgS x n) (s : Nat) l) r = _
    rw [aft_rg x n s hs]
    by_cases c : x ∈ l
    · have ec : cnt x (l :: r) = cnt x r + 1 := by unfold cnt; rw [List.filter_cons_of_pos (by simpa using c)]; rfl
      rw [ec]
      by_cases k : s < n
      · rw [if_pos ⟨c, k⟩, end_rg x n r (s + 1) (by omega)]; congr 1; omega
      · rw [if_neg fun z => k z.2, end_rg x n r s hs]; congr 1; omega
    · have ec : cnt x (l :: r) = cnt x r := by unfold cnt; rw [List.filter_cons_of_neg (by simpa using c)]
      rw [ec, if_neg fun z => c z.1, end_rg x n r s hs]
theorem takes_rings (x : Str) (t : Int) (ht : 1 ≤ t) (tale : List (List Str)) : takesW (rings x t) tale = decide (t ≤ (cnt x tale : Nat)) := by
  have e := takes_mk (t + 1) [t] (rgS x t.toNat) tale
  refine e.trans ?_
  rw [show (0 : Int) = ((0 : Nat) : Int) from rfl, end_rg x t.toNat tale 0 (Nat.zero_le _)]
  refine decide_eq_decide.mpr ?_
  rw [List.mem_singleton]
  omega
/-! ahead -/
def spotsF (x : Str) (tale : List (List Str)) : List Nat := (List.range tale.length).filter fun i => decide (x ∈ tale.getD i [])
theorem spots_cons (x : Str) (l : List Str) (r : List (List Str)) : spotsF x (l :: r) = (if x ∈ l then [0] else []) ++ (spotsF x r).map Nat.succ := by
  unfold spotsF
  rw [List.length_cons, List.range_succ_eq_map, List.filter_cons, List.filter_map]
  show (if decide (x ∈ l) = true then _ else _) = _
  have e : ((fun i => decide (x ∈ (l :: r).getD i [])) ∘ Nat.succ) = fun i => decide (x ∈ r.getD i []) := by
    funext i
    rfl
  rw [e]
  by_cases c : x ∈ l
  · rw [if_pos c, if_pos (decide_eq_true c)]; rfl
  · rw [if_neg c, if_neg (by simpa using c)]; rfl
def ahS (x y : Str) : List Stp := [⟨0, [y], [], 2⟩, ⟨0, [x], [], 1⟩]
theorem aft_ah (x y : Str) (s : Int) (lot : List Str) : aft (ahS x y) s lot = if s = 0 then (if y ∈ lot then 2 else if x ∈ lot then 1 else 0) else s := by
  show (if hit ⟨0, [y], [], 2⟩ s lot = true then (2 : Int) else if hit ⟨0, [x], [], 1⟩ s lot = true then 1 else s) = _
  unfold hit
  by_cases c : s = 0
  · subst c
    simp
  · have : ¬ (0 : Int) = s := fun z => c z.symm
    simp [c, this]
theorem end_ah_stay (x y : Str) {s : Int} (h : s ≠ 0) : ∀ tale : List (List Str), endW (ahS x y) s tale = s
  | [] => rfl
  | l :: r => by
    show endW (ahS x y) (aft (ahS x y) s l) r = s
    rw [aft_ah, if_neg h]
    exact end_ah_stay x y h r
def aheadB (x y : Str) (tale : List (List Str)) : Bool := match (spotsF x tale).head? with
  | none => false
  | some i => decide ((tale.take (i + 1)).filter (fun l => decide (y ∈ l)) = [])
theorem end_ah (x y : Str) : ∀ tale : List (List Str), decide (endW (ahS x y) 0 tale = 1) = aheadB x y tale
  | [] => rfl
  | l :: r => by
    show decide (endW (ahS x y) (aft (ahS x y) 0 l) r = 1) = _
    rw [aft_ah, if_pos rfl]
    unfold aheadB
    rw [spots_cons]
    by_cases cy : y ∈ l
    · rw [if_pos cy, end_ah_stay x y (by decide)]
      cases hd : ((if x ∈ l then [0] else []) ++ (spotsF x r).map Nat.succ).head? with
      | none => rfl
      | some i =>
        symm
        show decide (List.filter _ (l :: r.take i) = []) = _
        rw [List.filter_cons_of_pos (by simpa using cy)]
        simp
    · rw [if_neg cy]
      by_cases cx : x ∈ l
      · rw [if_pos cx, if_pos cx, end_ah_stay x y (by decide)]
        show _ = decide (List.filter _ [l] = [])
        rw [List.filter_cons_of_neg (by simpa using cy)]
        rfl
      · rw [if_neg cx, if_neg cx, end_ah x y r]
        unfold aheadB
        rw [List.nil_append, List.head?_map]
        cases (spotsF x r).head? with
        | none => rfl
        | some i =>
          show _ = decide (List.filter _ (l :: r.take (i + 1)) = [])
          rw [List.filter_cons_of_neg (by simpa using cy)]
theorem takes_ahead (x y : Str) (tale : List (List Str)) : takesW (ahead x y) tale = aheadB x y tale := by
  have e := takes_mk 3 [1] (ahS x y) tale
  refine e.trans ?_
  rw [← end_ah]
  exact decide_eq_decide.mpr List.mem_singleton
/-! last -/
def laS (x : Str) : List Stp := [⟨0, [x], [], 1⟩, ⟨1, [], [x], 0⟩]
theorem aft_la (x : Str) (s : Int) (h : s = 0 ∨ s = 1) (lot : List Str) : aft (laS x) s lot = if x ∈ lot then 1 else 0 := by
  show (if hit ⟨0, [x], [], 1⟩ s lot = true then (1 : Int) else if hit ⟨1, [], [x], 0⟩ s lot = true then 0 else s) = _
  unfold hit
  rcases h with rfl | rfl
  · by_cases c : x ∈ lot <;> simp [c]
  · by_cases c : x ∈ lot <;> simp [c]
theorem end_la01 (x : Str) : ∀ (tale : List (List Str)) (s : Int), s = 0 ∨ s = 1 → endW (laS x) s tale = 0 ∨ endW (laS x) s tale = 1
  | [], s, h => h
  | l :: r, s, h => by
    rw [show endW (laS x) s (l :: r) = endW (laS x) (aft (laS x) s l) r from rfl, aft_la x s h]
    refine end_la01 x r _ ?_
    by_cases c : x ∈ l
    · rw [if_pos c]; exact .inr rfl
    · rw [if_neg c]; exact .inl rfl
theorem takes_last (x : Str) (tale : List (List Str)) : takesW (lastW x) tale = (decide (0 < tale.length) && decide (x ∈ tale.getD (tale.length - 1) [])) := by
  have e := takes_mk 2 [1] (laS x) tale
  refine e.trans ?_
  rcases List.eq_nil_or_concat tale with rfl | ⟨init, l, rfl⟩
  · rfl
  · rw [List.concat_eq_append, endW_snoc, aft_la x _ (end_la01 x init 0 (.inl rfl))]
    have g : (init ++ [l]).getD ((init ++ [l]).length - 1) [] = l := by
      rw [List.getD_eq_getElem?_getD, List.length_append]
      show ((init ++ [l])[init.length + 1 - 1]?).getD [] = l
      rw [Nat.add_sub_cancel, List.getElem?_append_right (Nat.le_refl _), Nat.sub_self]; rfl
    rw [g]
    by_cases c : x ∈ l <;> simp [c]
/-! ### wishes of wishes -/
theorem aft_rng {n : Int} {lot : List Str} {s : Int} (hs : 0 ≤ s ∧ s < n) : ∀ {ss : List Stp}, (∀ t ∈ ss, OkS n t) → 0 ≤ aft ss s lot ∧ aft ss s lot < n
  | [], _ => hs
  | t :: r, h => by
    show 0 ≤ (if hit t s lot = true then t.e else aft r s lot) ∧ (if hit t s lot = true then t.e else aft r s lot) < n
    have o := h t List.mem_cons_self
    by_cases c : hit t s lot = true
    · rw [if_pos c]; exact ⟨o.e0, o.e1⟩
    · rw [if_neg c]; exact aft_rng hs fun u hu => h u (List.mem_cons_of_mem _ hu)
theorem endW_rng {n : Int} {ss : List Stp} (h : ∀ t ∈ ss, OkS n t) : ∀ (tale : List (List Str)) (s : Int), 0 ≤ s ∧ s < n → 0 ≤ endW ss s tale ∧ endW ss s tale < n
  | [], s, hs => hs
  | l :: r, s, hs => endW_rng h r _ (aft_rng hs h)
theorem takes_deny {W : Wd} (ok : OkW W) (tale : List (List Str)) : takesW (deny W) tale = !takesW W tale := by
  have e := takes_mk W.n (((List.range W.n.toNat).map fun (k : Nat) => (k : Int)).filter fun i => !decide (i ∈ W.good)) W.steps tale
  refine e.trans ?_
  have r := endW_rng ok.sok tale 0 ⟨by decide, by have := ok.n1; omega⟩
  unfold takesW
  generalize endW W.steps 0 tale = s at r ⊢
  rw [Bool.eq_iff_iff, decide_eq_true_iff, List.mem_filter, List.mem_map]
  refine ⟨fun h => h.2, fun h => ⟨⟨s.toNat, List.mem_range.mpr (by omega), by omega⟩, h⟩⟩
theorem ok_deny {W : Wd} (ok : OkW W) (h : W.n < 64) : OkW (deny W) := by
  refine ok_mkW ok.n1 ?_ (fun g hg => ?_) ok.sl ok.sok
  · refine Nat.lt_of_le_of_lt (List.length_filter_le _ _) ?_
    have n1 := ok.n1
    simp; omega
  · obtain ⟨k, hk, rfl⟩ := List.mem_map.mp (List.mem_filter.mp hg).1
    have := List.mem_range.mp hk
    omega
/-- a good state stands behind some beginning of the tale -/
def begW (W : Wd) : Int → List (List Str) → Bool
  | s, [] => decide (s ∈ W.good)
  | s, l :: r => decide (s ∈ W.good) || begW W (aft W.steps s l) r
theorem aft_met (W : Wd) (s : Int) (lot : List Str) : aft (W.steps.filter fun t => !decide (t.b ∈ W.good)) s lot = if s ∈ W.good then s else aft W.steps s lot := by
  by_cases c : s ∈ W.good
  · rw [if_pos c]
    refine aft_no fun t ht => ?_
    have h := (List.mem_filter.mp ht).2
    unfold hit
    by_cases e : t.b = s
    · rw [e, decide_eq_true c] at h; cases h
    · rw [decide_eq_false e]; rfl
  · rw [if_neg c]
    induction W.steps with
    | nil => rfl
    | cons t r ih =>
      show _ = if hit t s lot = true then t.e else aft r s lot
      by_cases g : t.b ∈ W.good
      · rw [List.filter_cons_of_neg (by simpa using g), ih]
        rw [if_neg (by unfold hit; rw [decide_eq_false (show ¬ t.b = s from fun e => c (by rw [← e]; exact g))]; exact Bool.false_ne_true)]
      · rw [List.filter_cons_of_pos (by simpa using g)]
        show (if hit t s lot = true then t.e else _) = _
        rw [ih]
theorem end_met (W : Wd) : ∀ (tale : List (List Str)) (s : Int), decide (endW (W.steps.filter fun t => !decide (t.b ∈ W.good)) s tale ∈ W.good) = begW W s tale
  | [], s => rfl
  | l :: r, s => by
    show decide (endW _ (aft (W.steps.filter fun t => !decide (t.b ∈ W.good)) s l) r ∈ W.good) = (decide (s ∈ W.good) || begW W (aft W.steps s l) r)
    rw [end_met W r, aft_met]
    by_cases c : s ∈ W.good
    · rw [if_pos c, decide_eq_true c, Bool.true_or]
      cases r with
      | nil => exact decide_eq_true c
      | cons a b => show (decide (s ∈ W.good) || _) = true; rw [decide_eq_true c]; rfl
    · rw [if_neg c, decide_eq_false c, Bool.false_or]
theorem beg_spots (W : Wd) : ∀ (tale : List (List Str)) (s : Int), begW W s tale = (List.range (tale.length + 1)).any fun k => decide (endW W.steps s (tale.take k) ∈ W.good)
  | [], s => by
    show decide (s ∈ W.good) = (decide (s ∈ W.good) || false)
    rw [Bool.or_false]
  | l :: r, s => by
    show (decide (s ∈ W.good) || begW W (aft W.steps s l) r) = _
    rw [beg_spots W r, List.length_cons, List.range_succ_eq_map (n := r.length + 1), List.any_cons, List.any_map]
    rfl
theorem any_filter {α : Type} (p : α → Bool) : ∀ l : List α, l.any p = decide (l.filter p ≠ [])
  | [] => rfl
  | a :: l => by
    rw [List.any_cons, List.filter_cons]
    by_cases c : p a = true
    · rw [if_pos c, c, Bool.true_or, decide_eq_true (List.cons_ne_nil _ _)]
    · rw [if_neg c, any_filter p l, Bool.eq_false_iff.mpr c, Bool.false_or]
theorem takes_met (W : Wd) (tale : List (List Str)) : takesW (met W) tale = decide ((List.range (tale.length + 1)).filter (fun k => decide (endW W.steps 0 (tale.take k) ∈ W.good)) ≠ []) := by
  have e := takes_mk W.n W.good (W.steps.filter fun s => !decide (s.b ∈ W.good)) tale
  rw [← any_filter, ← beg_spots, ← end_met]
  exact e
theorem takes_pair {W U : Wd} {f : Int} {Ps : List (Int × Int)} (c : Closed (mvp W U) Ps) (tale : List (List Str)) : takesW (pairW W U f Ps) tale = decide (f ≤ (sides W U (endW W.steps 0 tale, endW U.steps 0 tale) : Nat)) := by
  have e := takes_mk (Ps.length : Nat) ((Ps.filter fun p => decide (f ≤ (sides W U p : Nat))).map fun p => ((idx Ps p : Nat) : Int)) (stOf (mvp W U) Ps Ps.length) tale
  refine e.trans ?_
  have hz : (0, 0) ∈ Ps := List.mem_of_getElem? c.z
  obtain ⟨h1, h2⟩ := end_pair (W := W) (U := U) c tale 0 0 hz
  rw [idx_of c.nd c.z] at h1
  rw [show (0 : Int) = ((0 : Nat) : Int) from rfl, h1]
  generalize (endW W.steps ((0 : Nat) : Int) tale, endW U.steps ((0 : Nat) : Int) tale) = p at h2 ⊢
  refine decide_eq_decide.mpr ⟨fun h => ?_, fun h => List.mem_map.mpr ⟨p, List.mem_filter.mpr ⟨h2, decide_eq_true h⟩, rfl⟩⟩
  obtain ⟨q, hq, eq⟩ := List.mem_map.mp h
  obtain ⟨q1, q2⟩ := List.mem_filter.mp hq
  have e1 := idx_get q1
  rw [show idx Ps q = idx Ps p by omega, idx_get h2] at e1
  rw [Option.some.inj e1]
  exact of_decide_eq_true q2
end Kd

namespace Kd
open PySem PySem.Spec PyProof.Rows L2 Hb St Sq Ow En
/-- a tale: a tuple of lots -/
def TaA (K : PySem.W.Frag) (H : Hp) (v : V) (tale : List (List Str)) : Prop := ∃ p ys, v = .ref p ∧ SqT K H p ys ∧ All2 (TL K H) ys tale ∧ tale.length ≤ 6
theorem TaA.fix {K : PySem.W.Frag} {H H' : Hp} {v : V} {tale : List (List Str)} (f : Fix H H') (h : TaA K H v tale) : TaA K H' v tale := let ⟨p, ys, e, q, al, l⟩ := h; ⟨p, ys, e, tupFix f q, al.imp fun _ _ h => h.fix f, l⟩
theorem tl_dp {K : PySem.W.Frag} {H : Hp} : ∀ {vs : List V} {ls : List (List Str)}, All2 (TL K H) vs ls → DpAll K H vs (ls.map dS) := fun h => dp_all (f := dS) (fun v d ⟨a, e, q, _⟩ => e ▸ .tup q (dp_strs _)) h
theorem tl_sh {K : PySem.W.Frag} {H : Hp} {vs : List V} {ls : List (List Str)} (h : All2 (TL K H) vs ls) : Sh 2 (.list (ls.map dS)) := sh_lst fun x hx => by
  obtain ⟨i, hi, e⟩ := List.getElem_of_mem hx
  obtain ⟨v, _, a, _, _, _, n⟩ := h.getR (List.getElem?_eq_getElem hi)
  exact sh_dS (e ▸ n)
theorem eqv_nil_l (ls : List (List Str)) : PyData.eqv (.list (ls.map dS)) (.list []) = decide (ls = []) := eqvAll_map eqv_dS ls []
theorem eqv_nil_i (ls : List Int) : PyData.eqv (.list (ls.map .int)) (.list []) = decide (ls = []) := eqvAll_map eqv_int ls []
theorem eqv_bool (a b : Bool) : PyData.eqv (.bool a) (.bool b) = decide (a = b) := by cases a <;> cases b <;> rfl
theorem eqv_bls (a b : List Bool) : PyData.eqv (.list (a.map .bool)) (.list (b.map .bool)) = decide (a = b) := eqvAll_map eqv_bool a b
theorem sh_bls (a : List Bool) : Sh 1 (.list (a.map .bool)) := sh_lst fun x _ => ⟨rfl, Nat.zero_le _⟩
theorem sh_ils (a : List Int) : Sh 1 (.list (a.map .int)) := sh_lst fun x _ => sh_int 0 x
section
variable {P : Program} {w : World} {K : PySem.W.Frag} {mg : Str → Option Value} {base : Heap}
theorem dp_bls {H : Hp} : ∀ xs : List Bool, DpAll K H (xs.map V.bl) (xs.map PyData.bool)
  | [] => .nil
  | x :: xs => .cons (.bl x) (dp_bls xs)
theorem slA_take {H : Hp} {a : Addr} {xs : List V} {n : Nat} {Q : VK} (h : SqT K H a xs) (q : ∀ b H', Same H H' → SqT K H' b (xs.take n) → Q (.ref b) H') : rSlA K (.ref a) none (some (n : Nat)) H Q := by
  have e0 : HT.sIx xs.length 0 none = 0 := rfl
  have e1 : HT.sIx xs.length xs.length (some (n : Nat)) = min n xs.length := by
    unfold HT.sIx
    simp
    try omega
  refine ⟨a, xs, rfl, h, fun w => ?_, fun w p hp => ?_⟩
  · rw [e1] at w
    exact q a H (Same.refl _) (by rw [List.take_of_length_le (by omega)]; exact h)
  · refine q p _ (same_new hp _) (SqT.of ?_)
    rw [upd_same]
    unfold cutV
    rw [e0, e1, List.drop_zero, Nat.sub_zero]
    congr 2
    rw [List.take_eq_take_iff]; omega
/-- spots[0] if spots != [] else 0 - 1 -/
def fstF (x : Str) (tale : List (List Str)) : Int := match (spotsF x tale).head? with | none => -1 | some i => (i : Nat)
theorem fst_none {x : Str} {tale : List (List Str)} (h : (spotsF x tale).head? = none) : fstF x tale = -1 := by unfold fstF; rw [h]
theorem fst_some {x : Str} {tale : List (List Str)} {i : Nat} (h : (spotsF x tale).head? = some i) : fstF x tale = (i : Nat) := by unfold fstF; rw [h]
abbrev s__law_made_right : Stmt := top 40
theorem sc__law_made_right : FnScope ["box", "rings", "tales", "one", "other", "times", "some", "tale", "many", "spots", "first", "is_ahead", "due", "k", "lot", "wish"] ["box", "rings", "tales"] (defScope s__law_made_right) := ⟨rfl, rfl, rfl, by decide +kernel, rfl, by decide +kernel, by decide +kernel⟩
def spMade (K : PySem.W.Frag) : Sp := fun vs H Q _ => ∃ (bx rl tl : Addr) (rings : List Str) (its : List V) (tales : List (List (List Str))), vs = [.ref bx, .ref rl, .ref tl] ∧ BoxAt H bx ∧ H rl = some (.lst (rings.map V.str)) ∧ rl ≠ bx ∧ (1 ≤ rings.length ∧ rings.length ≤ 4) ∧ (∀ x ∈ rings, IsNm x) ∧
  H tl = some (.lst its) ∧ tl ≠ bx ∧ All2 (TaA K H) its tales ∧ ∀ H', Kept bx H H' → BoxAt H' bx → Q (.bl true) H'
theorem ok_made {f : Addr} {fd : FuncData} (F : Fun K "_law_made_right" "_law_made_right" s__law_made_right f fd) (TC : Txt K mg C_Wish) (C__law_pick : Cl P w K mg base "_law_pick" ["box", "some"] [] 2 spPick) (C__law_take : Cl P w K mg base "_law_take" ["box", "many"] [] 1 spTake) (C_wish_ahead : Cl P w K mg base "wish_ahead" ["one", "other"] [] 7 (spAhead K C_Wish)) (C_wish_last : Cl P w K mg base "wish_last" ["bell"] [] 7 (spLast K C_Wish)) (C_wish_rings : Cl P w K mg base "wish_rings" ["bell", "times"] [.int 1] 7 (spRings K C_Wish)) (D_takes : Ch P w K mg base C_Wish "takes" ["self", "tale"] [] 4 (spTakes K C_Wish)) (K_wish_rings : ClK P w K mg base "wish_rings" ["bell", "times"] 0 ["bell", "times"] (fun _ zs => zs) 7 (spRings K C_Wish)) (n_len : mg "len" = none) (n_range : mg "range" = none) : FnOk P w K mg base CX0 9 f fd ["box", "rings", "tales"] (spMade K) := by
  refine F.ok sc__law_made_right (fun vs H Q E h => ?_) (fun cdv A outer s H vs Q E hr h => ?_)
  · obtain ⟨_, _, _, _, _, _, rfl, _⟩ := h
    rfl
  · obtain ⟨bx, rl, tl, rings, its, tales, rfl, hb, hr0, nr, rn, nm, ht0, nt, al, q⟩ := h
    refine ⟨_, (pss_cons (ps_asg (pe_tup (pa_cons (pe_use C__law_pick (hr.mono (by decide)) rfl (pa_cons (pv 0) (pa_cons (pv 1) pa_nil))) (pa_cons (pe_use C__law_pick (hr.mono (by decide)) rfl (pa_cons (pv 0) (pa_cons (pv 1) pa_nil))) (pa_cons (pe_op op_add pe_int (pe_use C__law_take (hr.mono (by decide)) rfl (pa_cons (pv 0) (pa_cons pe_int pa_nil)))) pa_nil)))) (pg_tup rfl (pgs_cons (pg_name (i := 3) sc__law_made_right.nd rfl (Or.inr rfl)) (pgs_cons (pg_name (i := 4) sc__law_made_right.nd rfl (Or.inr rfl)) (pgs_cons (pg_name (i := 5) sc__law_made_right.nd rfl (Or.inl rfl)) pgs_nil)))))
    (pss_cons (ps_set (i := 6) sc__law_made_right.nd rfl (Or.inl rfl) (pe_lst (pa_cons (pe_use C_wish_rings (hr.mono (by decide)) rfl (pa_cons (pv 3) pa_nil)) (pa_cons (pe_useK0 K_wish_rings (hr.mono (by decide)) rfl (pk_cons (pv 3) (pk_cons (pv 5) pk_nil))) (pa_cons (pe_use C_wish_ahead (hr.mono (by decide)) rfl (pa_cons (pv 3) (pa_cons (pv 4) pa_nil))) (pa_cons (pe_use C_wish_last (hr.mono (by decide)) rfl (pa_cons (pv 4) pa_nil)) pa_nil))))))
    (Evl.pss_cut (ps_for PassesOwn.never rfl (pi_seq (pv 2)) (pg_name (i := 7) sc__law_made_right.nd rfl (Or.inr rfl))
      (pss_cons (ps_set (i := 8) sc__law_made_right.nd rfl (Or.inl rfl) (pe_callB call_len_seq (by rfl) n_len PySem.boot_len (pa_cons (pe_lc (own := [("lot", 14)]) (g := gName 14) rfl sc__law_made_right.nd (pi_seq (pv 7)) (blkOk_by (N := ["box", "rings", "tales", "one", "other", "times", "some", "tale", "many", "spots", "first", "is_ahead", "due", "k", "lot", "wish"]) (sc := defScope s__law_made_right) (by decide +kernel)) (fun _ _ _ _ _ => pg_name (i := 14) sc__law_made_right.nd rfl (Or.inl rfl)) (fun _ _ _ _ _ => pts_one (pt_cmpR (r := rIn K false) op_in_seq (pv 3) (pv 14) rfl)) (fun _ _ _ _ _ => pv 14)) pa_nil)))
    (Evl.pss_cut (ps_setLc (i := 9) (own := [("k", 13)]) (g := gName 13) (by rfl) sc__law_made_right.nd rfl rfl (sw_true rfl rfl rfl (by decide +kernel)) (pi_range1 (by rfl) n_range (pa_cons (pe_callB call_len_seq (by rfl) n_len PySem.boot_len (pa_cons (pv 7) pa_nil)) pa_nil)) (blkOk_by (N := ["box", "rings", "tales", "one", "other", "times", "some", "tale", "many", "spots", "first", "is_ahead", "due", "k", "lot", "wish"]) (sc := defScope s__law_made_right) (by decide +kernel)) (fun _ _ _ _ _ => pg_name (i := 13) sc__law_made_right.nd rfl (Or.inl rfl)) (fun _ _ _ _ _ => pts_one (pt_cmpR (r := rIn K false) op_in_seq (pv 3) (pe_ix (r := rIxT K) ix_tup (pv 7) (pv 13) (fun _ _ => rfl)) rfl)) (fun _ _ _ _ _ => pv 13))
    (Evl.pss_cut (ps_set (i := 10) sc__law_made_right.nd rfl (Or.inl rfl) (pe_ifExp (pt_cmpR (op_neD hr.units) (pv 9) (pe_lst pa_nil) (nomark _)) (pe_ix ix_list (pv 9) pe_int (fun _ _ => rfl)) (pe_op op_sub pe_int pe_int)))
    (Evl.pss_cut (ps_set (i := 11) sc__law_made_right.nd rfl (Or.inl rfl) (pe_and (pe_cmpR op_ge (pv 10) pe_int (nomark _)) (pe_one (pe_cmpR (op_eqD hr.units) (pe_lc (own := [("lot", 14)]) (g := gName 14) rfl sc__law_made_right.nd (pi_seq (pe_slice (r := rSlA K) sl_tupA (pv 7) po_none (po_some (pe_op op_add (pv 10) pe_int)))) (blkOk_by (N := ["box", "rings", "tales", "one", "other", "times", "some", "tale", "many", "spots", "first", "is_ahead", "due", "k", "lot", "wish"]) (sc := defScope s__law_made_right) (by decide +kernel)) (fun _ _ _ _ _ => pg_name (i := 14) sc__law_made_right.nd rfl (Or.inl rfl)) (fun _ _ _ _ _ => pts_one (pt_cmpR (r := rIn K false) op_in_seq (pv 4) (pv 14) rfl)) (fun _ _ _ _ _ => pv 14)) (pe_lst pa_nil) (nomark _)))))
    (pss_cons (ps_set (i := 12) sc__law_made_right.nd rfl (Or.inl rfl) (pe_lst (pa_cons (pe_cmpR op_gt (pv 8) pe_int (nomark _)) (pa_cons (pe_cmpR op_ge (pv 8) (pv 5) (nomark _)) (pa_cons (pv 11) pa_nil)))))
    (Evl.pss_cut (ps_expr (pe_bm PySem.F.plainAttrs_list PySem.F.slot_list_append PySem.F.type_list_append mt_append (pv 12) (pa_cons (pe_and (pe_cmpR op_gt (pe_callB call_len_seq (by rfl) n_len PySem.boot_len (pa_cons (pv 7) pa_nil)) pe_int (nomark _)) (pe_one (pe_cmpR op_in_seq (pv 4) (pe_ix ix_tup (pv 7) (pe_op op_sub (pe_callB call_len_seq (by rfl) n_len PySem.boot_len (pa_cons (pv 7) pa_nil)) pe_int) (fun _ _ => rfl)) rfl))) pa_nil)))
    (pss_one (ps_if (pt_cmpR (op_neD hr.units) (pe_lc (own := [("wish", 15)]) (g := gName 15) rfl sc__law_made_right.nd (pi_seq (pv 6)) (blkOk_by (N := ["box", "rings", "tales", "one", "other", "times", "some", "tale", "many", "spots", "first", "is_ahead", "due", "k", "lot", "wish"]) (sc := defScope s__law_made_right) (by decide +kernel)) (fun _ _ _ _ _ => pg_name (i := 15) sc__law_made_right.nd rfl (Or.inl rfl)) (fun _ _ _ _ _ => pts_nil) (fun _ _ _ _ _ => pe_do D_takes TC.cl (hr.mono (by decide)) (pv 15) (pa_cons (pv 7) pa_nil))) (pv 12) (nomark _)) (pss_one (ps_ret pe_bl)) pss_nil)))))))))
    (pss_one (ps_ret pe_bl))))), ?_⟩
    refine ⟨_, rfl, _, rfl, bx, rl, rings, rfl, hb, hr0, nr, ⟨rn.1, by omega⟩, fun x H1 hx k1 b1 => ?_⟩
    refine ⟨_, rfl, _, rfl, bx, rl, rings, rfl, b1, k1 _ _ hr0 nr, nr, ⟨rn.1, by omega⟩, fun y H2 hy k2 b2 => ?_⟩
    refine ⟨_, rfl, bx, 3, rfl, ⟨by decide, by decide⟩, b2, fun d H3 d0 d1 k3 b3 => ⟨_, _, rfl, rfl, by show 3 ≤ sizeLine; decide, fun t kt => ?_⟩⟩
    have nx := nm x hx
    have ny := nm y hy
    have k03 := (k1.trans k2).trans k3
    have u1 := same_new kt (.tup [V.str x, V.str y, V.int (1 + d)])
    have eu : upd H3 t (.tup [V.str x, V.str y, V.int (1 + d)]) t = _ := upd_same
    generalize upd H3 t (.tup [V.str x, V.str y, V.int (1 + d)]) = H4 at u1 eu ⊢
    refine ⟨t, _, rfl, SqT.of eu, rfl, _, _, rfl, _, _, rfl, _, _, rfl, rfl, ?_⟩
    have b4 := b3.same u1
    refine ⟨_, rfl, x, 1, rfl, nx, by decide, by decide, fun w1 H5 s5 c1 => ?_⟩
    refine ⟨_, rfl, _, rfl, rfl, rfl, x, 1 + d, rfl, nx, by omega, by omega, fun w2 H6 s6 c2 => ?_⟩
    refine ⟨_, rfl, _, rfl, x, y, rfl, nx, ny, fun w3 H7 s7 c3 => ?_⟩
    refine ⟨_, rfl, y, rfl, ny, fun w4 H8 s8 c4 => ⟨by show 4 ≤ sizeLine; decide, fun sm hsm => ?_⟩⟩
    have u2 := same_new hsm (.lst [w1, w2, w3, w4])
    have es : upd H8 sm (.lst [w1, w2, w3, w4]) sm = some (.lst [w1, w2, w3, w4]) := upd_same
    have s48 := (((s5.trans s6).trans s7).trans s8).trans u2
    have ws : All2 (WA K C_Wish (upd H8 sm (.lst [w1, w2, w3, w4]))) [w1, w2, w3, w4] [Kd.rings x 1, Kd.rings x (1 + d), ahead x y, lastW y] :=
      .cons (c1.same (((s6.trans s7).trans s8).trans u2)) (.cons (c2.same ((s7.trans s8).trans u2)) (.cons (c3.same (s8.trans u2)) (.cons (c4.same u2) .nil)))
    have b9 := b4.same s48
    have ht9 := s48 _ _ (u1 _ _ (k03 _ _ ht0 nt))
    have al9 : All2 (TaA K (upd H8 sm (.lst [w1, w2, w3, w4]))) its tales := al.imp fun _ _ h => h.fix ((hb.fix k03).trans (Fix.of (u1.trans s48)))
    have kk : Kept bx H (upd H8 sm (.lst [w1, w2, w3, w4])) := k03.trans (Hb.Same.kept (u1.trans s48))
    generalize upd H8 sm (.lst [w1, w2, w3, w4]) = H9 at es ws b9 ht9 al9 kk ⊢
    refine ⟨fun σ H' => Same H9 H', ?_, ?_⟩
    · refine ⟨_, rfl, tl, _, rfl, SqX.lst ht9, fun J S Wk s0 => ?_⟩
      refine for_sq Wk (fun i σ H' => (∃ o1 o2 o3 o4 o5 o6 o7 o8 o9, σ = [some (.ref bx), some (.ref rl), some (.ref tl), some (.str x), some (.str y), some (.int (1 + d)), some (.ref sm), o1, o2, o3, o4, o5, o6, o7, o8, o9]) ∧ Same H9 H') ⟨⟨_, _, _, _, _, _, _, _, _, rfl⟩, Same.refl _⟩ (fun i σ H' p => Wk.keep (fun o e => p.2 _ _ e) s0) ?_ (fun σ H' p => p.2)
      rintro i σ G0 v ev ⟨⟨o1, o2, o3, o4, o5, o6, o7, o8, o9, rfl⟩, s1⟩
      obtain ⟨tale, et, hv⟩ := al9.get ev
      obtain ⟨p, ys, rfl, hp, alt, l6⟩ := hv.fix (Fix.of s1)
      have ly : ys.length ≤ 6 := by rw [alt.len]; exact l6
      refine ⟨_, rfl, p, _, rfl, .inr hp, fun J S Wk2 z0 D hD => ?_⟩
      refine lc_mf (ds := tale) Wk2 (fun l => decide (x ∈ l)) (TL K) z0 hD alt.len (fun j y' l H' ey el s m => ?_) (fun G1 zs t1 e1 al1 => ?_)
      · obtain ⟨l', el', hl⟩ := alt.get ey
        obtain rfl : l' = l := Option.some.inj (el'.symm.trans el)
        have hl := hl.fix (Fix.of s)
        obtain ⟨a, rfl, ha, _⟩ := id hl
        refine ⟨rfl, _, rfl, _, rfl, in_strs (.inr ha) ⟨_, rfl, ?_⟩⟩
        cases c : decide (x ∈ l') with
        | true => exact iteT ⟨_, rfl, mf_yes m hD (fun _ _ _ _ f h => h.fix f) el (by omega) (Same.refl _) c hl⟩
        | false => exact iteF (mf_no m (fun _ _ _ _ f h => h.fix f) el (Same.refl _) c)
      refine ⟨D, zs, rfl, .inl (SqL.of e1), ?_⟩
      have hp1 : SqT K G1 p ys := tupFix (Fix.of t1) hp
      have alt1 : All2 (TL K G1) ys tale := alt.imp fun _ _ h => h.fix (Fix.of t1)
      have s9 := s1.trans t1
      -- spots
      refine ⟨fun σ H' => ∃ SP o10 o11 o12 o13 o14 o15, σ = [some (.ref bx), some (.ref rl), some (.ref tl), some (.str x), some (.str y), some (.int (1 + d)), some (.ref sm), some (.ref p), some (.int (cnt x tale : Nat)), some (.ref SP), o10, o11, o12, o13, o14, o15] ∧ Same G1 H' ∧ H' SP = some (.lst ((spotsF x tale).map fun (k : Nat) => V.int (k : Int))), ?_, ?_⟩
      · refine ⟨_, rfl, p, _, rfl, .inr hp1, _, rfl, by omega, by omega, fun SP hSP => ?_⟩
        refine lc_mf (ds := List.range tale.length) (wk_range (a := SP)) (fun i => decide (x ∈ tale.getD i [])) (fun _ y' k => y' = .int (k : Nat)) trivial hSP (by simp; exact alt.len) (fun j y' k H' ey ed s m => ?_) (fun G2 zs2 t2 e2 al2 => ?_)
        · obtain ⟨rfl, hj⟩ := rng_at ey
          obtain ⟨ekj, hk⟩ : j = k ∧ j < tale.length := by
            have e := List.getElem?_eq_some_iff.mp ed
            obtain ⟨h1, h2⟩ := e
            rw [List.getElem_range] at h2
            rw [List.length_range] at h1
            exact ⟨h2, h1⟩
          subst ekj
          have ek : tale[j]? = some (tale.getD j []) := by rw [List.getD_eq_getElem?_getD, List.getElem?_eq_getElem hk]; rfl
          obtain ⟨vk, evk, hl⟩ := alt1.getR ek
          obtain ⟨a, rfl, ha, _⟩ := id (hl.fix (Fix.of s))
          have eix : atI ys (0 + (j : Nat)) = some (.ref a) := by rw [Int.zero_add]; exact atI_nat evk
          refine ⟨rfl, _, rfl, _, rfl, _, rfl, p, ys, 0 + (j : Nat), .ref a, rfl, rfl, tupFix (Fix.of s) hp1, eix, in_strs (.inr ha) ⟨_, rfl, ?_⟩⟩
          cases c : decide (x ∈ tale.getD j []) with
          | true => exact iteT ⟨_, rfl, mf_yes m hSP (fun _ _ _ _ _ h => h) ed (by rw [List.length_range]; omega) (Same.refl _) c (by rw [Int.zero_add])⟩
          | false => exact iteF (mf_no m (fun _ _ _ _ _ h => h) ed (Same.refl _) c)
        · have ec : zs.length = cnt x tale := al1.len
          refine ⟨SP, o4, o5, o6, o7, o8, o9, by rw [ec]; rfl, t2, ?_⟩
          rw [e2, al2.map_eq (f := fun (k : Nat) => V.int (k : Int)) fun _ _ h => h]; rfl
      rintro σ G2 ⟨SP, o10, o11, o12, o13, o14, o15, rfl, t2, e2⟩
      have hp2 : SqT K G2 p ys := tupFix (Fix.of t2) hp1
      have alt2 : All2 (TL K G2) ys tale := alt1.imp fun _ _ h => h.fix (Fix.of t2)
      have sps : ∀ k ∈ spotsF x tale, k < tale.length := fun k hk => List.mem_range.mp (List.mem_filter.mp hk).1
      have spl : (spotsF x tale).length ≤ 6 := by unfold spotsF; exact Nat.le_trans (List.length_filter_le _ _) (by rw [List.length_range]; exact l6)
      have ei : (spotsF x tale).map (fun (k : Nat) => V.int (k : Int)) = ((spotsF x tale).map fun (k : Nat) => (k : Int)).map V.int := by rw [List.map_map]; rfl
      rw [ei] at e2
      refine ⟨fun σ H' => ∃ o11 o12 o13 o14 o15, σ = [some (.ref bx), some (.ref rl), some (.ref tl), some (.str x), some (.str y), some (.int (1 + d)), some (.ref sm), some (.ref p), some (.int (cnt x tale : Nat)), some (.ref SP), some (.int (fstF x tale)), o11, o12, o13, o14, o15] ∧ Same G2 H', ?_, ?_⟩
      · refine ⟨_, rfl, Nat.zero_le _, fun nl hnl => ?_⟩
        have tn := same_new hnl (.lst [])
        refine ⟨_, _, .lst (SqL.of (tn _ _ e2)) (dp_intl _), .lst (SqL.of upd_same) .nil, (sh_ils _).ok (by decide), by decide, _, rfl, ?_⟩
        rw [eqv_nil_i]
        cases hd : (spotsF x tale).head? with
        | none =>
          rw [fst_none hd, List.head?_eq_none_iff.mp hd]
          exact iteF ⟨_, _, rfl, rfl, o11, o12, o13, o14, o15, rfl, tn⟩
        | some i =>
          obtain ⟨rest, er⟩ := List.head?_eq_some_iff.mp hd
          rw [fst_some hd, decide_eq_false (by rw [er]; simp)]
          refine iteT ⟨_, rfl, SP, _, 0, .int (i : Nat), rfl, rfl, SqL.of (tn _ _ e2), by rw [er]; exact atI_nat (j := 0) rfl, o11, o12, o13, o14, o15, rfl, tn⟩
      rintro σ G3 ⟨o11, o12, o13, o14, o15, rfl, t3⟩
      have hp3 : SqT K G3 p ys := tupFix (Fix.of t3) hp2
      have alt3 : All2 (TL K G3) ys tale := alt2.imp fun _ _ h => h.fix (Fix.of t3)
      refine ⟨fun σ H' => ∃ o12 o13 o14 o15, σ = [some (.ref bx), some (.ref rl), some (.ref tl), some (.str x), some (.str y), some (.int (1 + d)), some (.ref sm), some (.ref p), some (.int (cnt x tale : Nat)), some (.ref SP), some (.int (fstF x tale)), some (.bl (aheadB x y tale)), o12, o13, o14, o15] ∧ Same G3 H', ?_, ?_⟩
      · refine ⟨_, rfl, _, _, rfl, rfl, _, rfl, ?_⟩
        cases hd : (spotsF x tale).head? with
        | none =>
          rw [fst_none hd]
          refine iteF ⟨o12, o13, o14, o15, ?_, Same.refl _⟩
          unfold aheadB
          rw [hd]; rfl
        | some i =>
          rw [fst_some hd, decide_eq_true (show (0 : Int) ≤ (i : Nat) by omega)]
          refine iteT ⟨_, rfl, _, rfl, _, _, rfl, rfl, _, rfl, ?_⟩
          refine slA_take (n := i + 1) hp3 fun b G4 t4 hb4 => ?_
          have al4 : All2 (TL K G4) (ys.take (i + 1)) (tale.take (i + 1)) := (alt3.imp fun _ _ h => h.fix (Fix.of t4)).take (i + 1)
          refine ⟨b, _, rfl, .inr hb4, fun J S Wk3 z0 D3 hD3 => ?_⟩
          refine lc_mf (ds := tale.take (i + 1)) Wk3 (fun l => decide (y ∈ l)) (TL K) z0 hD3 al4.len (fun j y' l H' ey el s m => ?_) (fun G5 zs5 t5 e5 al5 => ?_)
          · obtain ⟨l', el', hl⟩ := al4.get ey
            obtain rfl : l' = l := Option.some.inj (el'.symm.trans el)
            have hl := hl.fix (Fix.of s)
            obtain ⟨a, rfl, ha, _⟩ := id hl
            refine ⟨rfl, _, rfl, _, rfl, in_strs (.inr ha) ⟨_, rfl, ?_⟩⟩
            cases c : decide (y ∈ l') with
            | true => exact iteT ⟨_, rfl, mf_yes m hD3 (fun _ _ _ _ f h => h.fix f) el (by rw [List.length_take]; omega) (Same.refl _) c hl⟩
            | false => exact iteF (mf_no m (fun _ _ _ _ f h => h.fix f) el (Same.refl _) c)
          refine ⟨Nat.zero_le _, fun nl hnl => ?_⟩
          have tn := same_new hnl (.lst [])
          refine ⟨_, _, .lst (SqL.of (tn _ _ e5)) (tl_dp (al5.imp fun _ _ h => h.fix (Fix.of tn))), .lst (SqL.of upd_same) .nil, (tl_sh al5).ok (by decide), by decide, ?_⟩
          rw [eqv_nil_l]
          refine ⟨o12, o13, o14, o15, ?_, (t4.trans t5).trans tn⟩
          unfold aheadB
          rw [hd]; rfl
      rintro σ G4 ⟨o12, o13, o14, o15, rfl, t4⟩
      have hp4 : SqT K G4 p ys := tupFix (Fix.of t4) hp3
      have alt4 : All2 (TL K G4) ys tale := alt3.imp fun _ _ h => h.fix (Fix.of t4)
      have s94 := ((s9.trans t2).trans t3).trans t4
      -- due
      refine ⟨_, rfl, _, _, rfl, rfl, _, rfl, _, rfl, _, _, rfl, rfl, _, rfl, by show 3 ≤ sizeLine; decide, fun du hdu => ?_⟩
      have t5 := same_new hdu (.lst [V.bl (decide (0 < ((cnt x tale : Nat) : Int))), V.bl (decide (1 + d ≤ ((cnt x tale : Nat) : Int))), V.bl (aheadB x y tale)])
      have e5 : upd G4 du (.lst [V.bl (decide (0 < ((cnt x tale : Nat) : Int))), V.bl (decide (1 + d ≤ ((cnt x tale : Nat) : Int))), V.bl (aheadB x y tale)]) du = _ := upd_same
      generalize hG5 : upd G4 du (.lst [V.bl (decide (0 < ((cnt x tale : Nat) : Int))), V.bl (decide (1 + d ≤ ((cnt x tale : Nat) : Int))), V.bl (aheadB x y tale)]) = G5 at t5 e5 ⊢
      let B3 : List Bool := [decide (0 < ((cnt x tale : Nat) : Int)), decide (1 + d ≤ ((cnt x tale : Nat) : Int)), aheadB x y tale]
      let b0 : Bool := decide (0 < tale.length) && decide (y ∈ tale.getD (tale.length - 1) [])
      have e5' : G5 du = some (.lst (B3.map V.bl)) := e5
      have hdu4 : G4 du = none := hdu
      have hp5 : SqT K G5 p ys := tupFix (Fix.of t5) hp4
      refine ⟨fun σ H' => ∃ o13 o14 o15, σ = [some (.ref bx), some (.ref rl), some (.ref tl), some (.str x), some (.str y), some (.int (1 + d)), some (.ref sm), some (.ref p), some (.int (cnt x tale : Nat)), some (.ref SP), some (.int (fstF x tale)), some (.bl (aheadB x y tale)), some (.ref du), o13, o14, o15] ∧ Same G4 H' ∧ H' du = some (.lst ((B3 ++ [b0]).map V.bl)), ?_, ?_⟩
      · refine ⟨_, rfl, .inl ⟨rfl, _, SqL.of e5⟩, ?_⟩
        have fin : ∀ b : Bool, b = b0 → Same G4 (upd G5 du (.lst (B3.map V.bl ++ [.bl b]))) ∧ upd G5 du (.lst (B3.map V.bl ++ [.bl b])) du = some (.lst ((B3 ++ [b0]).map V.bl)) := fun b eb => ⟨fun c o e => by
          rw [upd_ne (ne_of_none e hdu4)]; exact t5 _ _ e, by rw [upd_same, eb, List.map_append]; rfl⟩
        refine ⟨_, rfl, p, ys, rfl, .inr hp5, _, _, rfl, rfl, _, rfl, ?_⟩
        rw [alt.len]
        by_cases l0 : tale = []
        · subst l0
          refine iteF ⟨du, _, _, rfl, rfl, e5', by show 3 < sizeLine; decide, ?_⟩
          obtain ⟨f1, f2⟩ := fin false rfl
          exact ⟨o13, o14, o15, rfl, f1, f2⟩
        · have hlen : 0 < tale.length := List.length_pos_iff.mpr l0
          rw [decide_eq_true (show (0 : Int) < (tale.length : Nat) by omega)]
          have ek : tale[tale.length - 1]? = some (tale.getD (tale.length - 1) []) := by rw [List.getD_eq_getElem?_getD, List.getElem?_eq_getElem (by omega)]; rfl
          obtain ⟨vk, evk, hl⟩ := alt4.getR ek
          obtain ⟨a, rfl, ha, _⟩ := id (hl.fix (Fix.of t5))
          have eix : atI ys (((ys.length : Nat) : Int) - 1) = some (.ref a) := by
            rw [show ((ys.length : Nat) : Int) - 1 = ((tale.length - 1 : Nat) : Int) by rw [alt.len]; omega]
            exact atI_nat evk
          refine iteT ⟨_, rfl, _, rfl, _, rfl, p, ys, rfl, .inr hp5, _, _, rfl, rfl, p, ys, _, .ref a, rfl, rfl, hp5, eix, in_strs (.inr ha) ⟨du, _, _, rfl, rfl, e5', by show 3 < sizeLine; decide, ?_⟩⟩
          obtain ⟨f1, f2⟩ := fin (decide (y ∈ tale.getD (tale.length - 1) [])) (by show _ = (decide _ && _); rw [decide_eq_true hlen, Bool.true_and])
          exact ⟨o13, o14, o15, rfl, f1, f2⟩
      rintro σ G6 ⟨o13, o14, o15, rfl, t6, e6⟩
      have s96 := s94.trans t6
      have hp6 : SqT K G6 p ys := tupFix (Fix.of t6) hp4
      have tx6 : All2 (TX K G6) ys tale := alt4.imp fun _ _ h => (h.fix (Fix.of t6)).tx
      have ws6 := ws.imp fun _ _ h => WA.same s96 h
      refine ⟨_, rfl, sm, _, rfl, SqX.lst (s96 _ _ es), fun J S Wk4 z0 D4 hD4 => ?_⟩
      refine lc_mf (ds := [Kd.rings x 1, Kd.rings x (1 + d), ahead x y, lastW y]) Wk4 (fun _ => true) (fun _ v W => v = .bl (takesW W tale)) z0 hD4 rfl (fun j v W H' ev eW s m => ?_) (fun G7 vs t7 e7 al7 => ?_)
      · obtain ⟨W', eW', hW⟩ := ws6.get ev
        obtain rfl : W' = W := Option.some.inj (eW'.symm.trans eW)
        have hW := hW.same s
        obtain ⟨wa, wdx, wg, wst, wits, rfl, w0, w1⟩ := id hW
        exact ⟨rfl, _, rfl, wa, wdx, _, rfl, w0, fl_no _ _ _ (by decide +kernel) (by decide +kernel) (by decide +kernel), _, rfl, .ref wa, p, W', ys, tale, rfl, hW, .inr (tupFix (Fix.of s) hp6), tx_all s tx6, fun H'' s'' => mf_yes m hD4 (fun _ _ _ _ _ h => h) eW (by show 4 ≤ 100000; decide) s'' rfl rfl⟩
      rw [List.filter_eq_self.mpr fun _ _ => rfl] at al7
      have e8 := al7.map_eq (f := fun W => V.bl (takesW W tale)) fun _ _ h => h
      have e9 : vs = (B3 ++ [b0]).map V.bl := by
        rw [e8]
        show [V.bl _, V.bl _, V.bl _, V.bl _] = [V.bl _, V.bl _, V.bl _, V.bl _]
        rw [takes_rings x 1 (by decide), takes_rings x (1 + d) (by omega), takes_ahead, takes_last]
        simp only [List.cons.injEq, V.bl.injEq, and_true]
        exact ⟨decide_eq_decide.mpr (by omega), trivial, trivial, rfl⟩
      rw [e9] at e7
      refine ⟨_, rfl, _, _, .lst (SqL.of e7) (dp_bls _), .lst (SqL.of (t7 _ _ e6)) (dp_bls _), (sh_bls _).ok (by decide), (sh_bls _).ok (by decide), _, rfl, ?_⟩
      rw [eqv_bls, decide_eq_true rfl]
      exact iteF ⟨⟨_, _, _, _, _, _, _, _, _, rfl⟩, s96.trans t7⟩
    rintro σ H' s
    exact q H' (kk.trans (Hb.Same.kept s)) (b9.same s)
end
end Kd

namespace Kd
open PySem PySem.Spec PyProof.Rows L2 Hb St Sq Ow En
def mkT (T : Wd) : Wd := mkW T.n T.good T.steps
theorem TOk.ok {T : Wd} (h : TOk T) : OkW (mkT T) := ok_mkW (by have := h.n2; omega) (by have := h.gl; omega) h.gok (by have := h.s4; omega) h.sok
theorem TOk.sm {T : Wd} (h : TOk T) : SmW (mkT T) where
  n3 := h.n3
  s4 := by show (T.steps.map nrm).length ≤ 4; rw [List.length_map]; exact h.s4
  ln := fun s hs => by
    obtain ⟨t, ht, rfl⟩ := List.mem_map.mp hs
    exact Nat.le_trans (len_lotS _) (Nat.le_trans (h.ln t ht) (by decide))
  lb := fun s hs => by
    obtain ⟨t, ht, rfl⟩ := List.mem_map.mp hs
    exact Nat.le_trans (len_lotS _) (Nat.le_trans (h.lb t ht) (by decide))
theorem takes_mkT (T : Wd) (tale : List (List Str)) : takesW (mkT T) tale = decide (endW T.steps 0 tale ∈ T.good) := takes_mk _ _ _ _
theorem sides_takes (W U : Wd) (tale : List (List Str)) : sides W U (endW W.steps 0 tale, endW U.steps 0 tale) = ([takesW W tale, takesW U tale].filter id).length := rfl
theorem met_told (T : Wd) (tale : List (List Str)) : takesW (met (mkT T)) tale = decide ((List.range (tale.length + 1)).filter (fun k => decide (endW T.steps 0 (tale.take k) ∈ T.good)) ≠ []) := by
  rw [takes_met]
  have e : (fun k => decide (endW (mkT T).steps 0 (tale.take k) ∈ (mkT T).good)) = fun k => decide (endW T.steps 0 (tale.take k) ∈ T.good) := by
    funext k
    exact takes_mkT T (tale.take k)
  rw [e]
section
variable {P : Program} {w : World} {K : PySem.W.Frag} {mg : Str → Option Value} {base : Heap}
abbrev s__law_joined_right : Stmt := top 41
theorem sc__law_joined_right : FnScope ["box", "one", "other", "told", "more", "tales", "some", "tale", "is_one", "is_other", "begun", "due", "k", "wish"] ["box", "one", "other", "told", "more", "tales"] (defScope s__law_joined_right) := ⟨rfl, rfl, rfl, by decide +kernel, rfl, by decide +kernel, by decide +kernel⟩
def spJoined (K : PySem.W.Frag) (C : Addr) : Sp := fun vs H Q _ => ∃ (bx tl : Addr) (b0 one other told more : V) (T T2 : Wd) (its : List V) (tales : List (List (List Str))), vs = [b0, one, other, told, more, .ref tl] ∧ WA K C H one (mkT T) ∧ WA K C H other (mkT T2) ∧ Told bx K H told T ∧ Told bx K H more T2 ∧ TOk T ∧ TOk T2 ∧
  H tl = some (.lst its) ∧ All2 (TaA K H) its tales ∧ 0 < tales.length ∧ ∀ H', Same H H' → Q (.bl true) H'
theorem ok_joined {f : Addr} {fd : FuncData} (F : Fun K "_law_joined_right" "_law_joined_right" s__law_joined_right f fd) (TC : Txt K mg C_Wish) (C__law_end : Cl P w K mg base "_law_end" ["wish", "tale"] [] 2 (spLEnd K)) (C_wish_both : Cl P w K mg base "wish_both" ["one", "other"] [] 8 (spBoth K C_Wish)) (C_wish_denied : Cl P w K mg base "wish_denied" ["wish"] [] 7 (spDenied K C_Wish)) (C_wish_either : Cl P w K mg base "wish_either" ["one", "other"] [] 8 (spEither K C_Wish)) (C_wish_met : Cl P w K mg base "wish_met" ["wish"] [] 7 (spMet K C_Wish)) (D_takes : Ch P w K mg base C_Wish "takes" ["self", "tale"] [] 4 (spTakes K C_Wish)) (n_len : mg "len" = none) (n_range : mg "range" = none) : FnOk P w K mg base CX0 9 f fd ["box", "one", "other", "told", "more", "tales"] (spJoined K C_Wish) := by
  refine F.ok sc__law_joined_right (fun vs H Q E h => ?_) (fun cdv A outer s H vs Q E hr h => ?_)
  · obtain ⟨_, _, _, _, _, _, _, _, _, _, _, rfl, _⟩ := h
    rfl
  · obtain ⟨bx, tl, b0, one, other, told, more, T, T2, its, tales, rfl, hw, hu, ht, ht2, ok, ok2, htl, al, l0, q⟩ := h
    refine ⟨_, (pss_cons (ps_set (i := 6) sc__law_joined_right.nd rfl (Or.inl rfl) (pe_lst (pa_cons (pe_use C_wish_denied (hr.mono (by decide)) rfl (pa_cons (pv 1) pa_nil)) (pa_cons (pe_use C_wish_both (hr.mono (by decide)) rfl (pa_cons (pv 1) (pa_cons (pv 2) pa_nil))) (pa_cons (pe_use C_wish_either (hr.mono (by decide)) rfl (pa_cons (pv 2) (pa_cons (pv 1) pa_nil))) (pa_cons (pe_use C_wish_met (hr.mono (by decide)) rfl (pa_cons (pv 1) pa_nil)) pa_nil))))))
    (Evl.pss_cut (ps_for PassesOwn.never rfl (pi_seq (pv 5)) (pg_name (i := 7) sc__law_joined_right.nd rfl (Or.inr rfl))
      (pss_cons (ps_par (i := 8) (j := 9) (by rfl) sc__law_joined_right.nd rfl rfl (by decide) rfl rfl (pa_cons (pe_cmpR op_in_seq (pe_use C__law_end (hr.mono (by decide)) rfl (pa_cons (pv 3) (pa_cons (pv 7) pa_nil))) (pe_ix ix_tup (pv 3) pe_int (fun _ _ => rfl)) rfl) (pa_cons (pe_cmpR op_in_seq (pe_use C__law_end (hr.mono (by decide)) rfl (pa_cons (pv 4) (pa_cons (pv 7) pa_nil))) (pe_ix ix_tup (pv 4) pe_int (fun _ _ => rfl)) rfl) pa_nil)) (by rfl))
    (Evl.pss_cut (ps_setLc (i := 10) (own := [("k", 12)]) (g := gName 12) (by rfl) sc__law_joined_right.nd rfl rfl (sw_true rfl rfl rfl (by decide +kernel)) (pi_range1 (by rfl) n_range (pa_cons (pe_op op_add (pe_callB call_len_seq (by rfl) n_len PySem.boot_len (pa_cons (pv 7) pa_nil)) pe_int) pa_nil)) (blkOk_by (N := ["box", "one", "other", "told", "more", "tales", "some", "tale", "is_one", "is_other", "begun", "due", "k", "wish"]) (sc := defScope s__law_joined_right) (by decide +kernel)) (fun _ _ _ _ _ => pg_name (i := 12) sc__law_joined_right.nd rfl (Or.inl rfl)) (fun _ _ _ _ _ => pts_one (pt_cmpR (r := rIn K false) op_in_seq (pe_use C__law_end (hr.mono (by decide)) rfl (pa_cons (pv 3) (pa_cons (pe_slice (r := rSlA K) sl_tupA (pv 7) po_none (po_some (pv 12))) pa_nil))) (pe_ix (r := rIxT K) ix_tup (pv 3) pe_int (fun _ _ => rfl)) rfl)) (fun _ _ _ _ _ => pv 12))
    (Evl.pss_cut (ps_set (i := 11) sc__law_joined_right.nd rfl (Or.inl rfl) (pe_lst (pa_cons (pe_not (pv 8)) (pa_cons (pe_and (pv 8) (pe_one (pv 9))) (pa_cons (pe_or (pv 8) (pe_one (pv 9))) (pa_cons (pe_cmpR (op_neD hr.units) (pv 10) (pe_lst pa_nil) (nomark _)) pa_nil))))))
    (pss_one (ps_if (PW.pt (pw_or (pt_cmpR (op_neD hr.units) (pe_lc (own := [("wish", 13)]) (g := gName 13) rfl sc__law_joined_right.nd (pi_seq (pv 6)) (blkOk_by (N := ["box", "one", "other", "told", "more", "tales", "some", "tale", "is_one", "is_other", "begun", "due", "k", "wish"]) (sc := defScope s__law_joined_right) (by decide +kernel)) (fun _ _ _ _ _ => pg_name (i := 13) sc__law_joined_right.nd rfl (Or.inl rfl)) (fun _ _ _ _ _ => pts_nil) (fun _ _ _ _ _ => pe_do D_takes TC.cl (hr.mono (by decide)) (pv 13) (pa_cons (pv 7) pa_nil))) (pv 11) (nomark _)) (pw_or1 (pt_cmpR op_ne (pe_do D_takes TC.cl (hr.mono (by decide)) (pv 1) (pa_cons (pv 7) pa_nil)) (pv 8) (nomark _))))) (pss_one (ps_ret pe_bl)) pss_nil))))))
    (pss_one (ps_ret (pe_cmpR op_eq (pe_do D_takes TC.cl (hr.mono (by decide)) (pe_use C_wish_denied (hr.mono (by decide)) rfl (pa_cons (pe_use C_wish_denied (hr.mono (by decide)) rfl (pa_cons (pv 1) pa_nil)) pa_nil)) (pa_cons (pe_ix ix_list (pv 5) pe_int (fun _ _ => rfl)) pa_nil)) (pe_do D_takes TC.cl (hr.mono (by decide)) (pv 1) (pa_cons (pe_ix ix_list (pv 5) pe_int (fun _ _ => rfl)) pa_nil)) (nomark _)))))), ?_⟩
    have n3 := ok.n3
    refine ⟨_, rfl, one, mkT T, rfl, hw, ok.ok, by show T.n < 64; omega, fun w1 H1 s1 c1 => ?_⟩
    refine ⟨_, rfl, _, rfl, one, other, mkT T, mkT T2, rfl, hw.same s1, hu.same s1, ok.ok, ok2.ok, ok.sm, ok2.sm, fun w2 Ps H2 s2 cl _ _ c2 => ?_⟩
    refine ⟨_, rfl, _, rfl, other, one, mkT T2, mkT T, rfl, (hu.same s1).same s2, (hw.same s1).same s2, ok2.ok, ok.ok, ok2.sm, ok.sm, fun w3 Qs H3 s3 cl2 _ _ c3 => ?_⟩
    refine ⟨_, rfl, one, mkT T, rfl, ((hw.same s1).same s2).same s3, ok.ok, fun w4 H4 s4 c4 => ⟨by show 4 ≤ sizeLine; decide, fun sm hsm => ?_⟩⟩
    have s5 := same_new hsm (.lst [w1, w2, w3, w4])
    have es : upd H4 sm (.lst [w1, w2, w3, w4]) sm = some (.lst [w1, w2, w3, w4]) := upd_same
    have ws : All2 (WA K C_Wish (upd H4 sm (.lst [w1, w2, w3, w4]))) [w1, w2, w3, w4] [deny (mkT T), pairW (mkT T) (mkT T2) 2 Ps, pairW (mkT T2) (mkT T) 1 Qs, met (mkT T)] :=
      .cons (c1.same (((s2.trans s3).trans s4).trans s5)) (.cons (c2.same ((s3.trans s4).trans s5)) (.cons (c3.same (s4.trans s5)) (.cons (c4.same s5) .nil)))
    have s05 := (((s1.trans s2).trans s3).trans s4).trans s5
    generalize upd H4 sm (.lst [w1, w2, w3, w4]) = H9 at es ws s05 ⊢
    have al9 : All2 (TaA K H9) its tales := al.imp fun _ _ h => h.fix (Fix.of s05)
    have htl9 := s05 _ _ htl
    refine ⟨fun σ H' => (∃ o1 o2 o3 o4 o5 o6 o7, σ = [some b0, some one, some other, some told, some more, some (.ref tl), some (.ref sm), o1, o2, o3, o4, o5, o6, o7]) ∧ Same H9 H', ?_, ?_⟩
    · refine ⟨_, rfl, tl, _, rfl, SqX.lst htl9, fun J S Wk s0 => ?_⟩
      refine for_sq Wk (fun i σ H' => (∃ o1 o2 o3 o4 o5 o6 o7, σ = [some b0, some one, some other, some told, some more, some (.ref tl), some (.ref sm), o1, o2, o3, o4, o5, o6, o7]) ∧ Same H9 H') ⟨⟨_, _, _, _, _, _, _, rfl⟩, Same.refl _⟩ (fun i σ H' p => Wk.keep (fun o e => p.2 _ _ e) s0) ?_ (fun σ H' p => p)
      rintro i σ G0 v ev ⟨⟨o1, o2, o3, o4, o5, o6, o7, rfl⟩, z0⟩
      obtain ⟨tale, et, hv⟩ := al9.get ev
      obtain ⟨p, ys, rfl, hp, alt, l6⟩ := hv.fix (Fix.of z0)
      have tx0 : All2 (TX K G0) ys tale := alt.imp fun _ _ h => h.tx
      have sA := s05.trans z0
      refine ⟨_, rfl, _, rfl, told, p, bx, T, ys, tale, rfl, ht.same sA, ok, .inr hp, tx0, fun G1 t1 => ?_⟩
      obtain ⟨ta, tg, tst, tits, etold, tq, tg1, ntg, tst1, ntst, tal⟩ := id (ht.same (sA.trans t1))
      obtain ⟨ma, mg', mst, mits, emore, mq, mg1, nmg, mst1, nmst, mal⟩ := id (ht2.same (sA.trans t1))
      subst etold
      subst emore
      refine ⟨_, rfl, ta, _, _, .ref tg, rfl, rfl, tq, rfl, in_ints (SqX.lst tg1) ?_⟩
      refine ⟨_, rfl, _, rfl, .ref ma, p, bx, T2, ys, tale, rfl, ht2.same (sA.trans t1), ok2, .inr (tupFix (Fix.of t1) hp), tx_all t1 tx0, fun G2 t2 => ?_⟩
      refine ⟨_, rfl, ma, _, _, .ref mg', rfl, rfl, tupFix (Fix.of t2) mq, rfl, in_ints (SqX.lst (t2 _ _ mg1)) ⟨_, _, rfl, ?_⟩⟩
      have t12 := t1.trans t2
      have hp2 : SqT K G2 p ys := tupFix (Fix.of t12) hp
      have tx2 := tx_all t12 tx0
      have ly : ys.length ≤ 6 := by rw [alt.len]; exact l6
      let p1 : Bool := decide (endW T.steps 0 tale ∈ T.good)
      let p2 : Bool := decide (endW T2.steps 0 tale ∈ T2.good)
      let bg : List Nat := (List.range (tale.length + 1)).filter fun k => decide (endW T.steps 0 (tale.take k) ∈ T.good)
      refine ⟨fun σ H' => ∃ BG o11 o12 o13, σ = [some b0, some one, some other, some (.ref ta), some (.ref ma), some (.ref tl), some (.ref sm), some (.ref p), some (.bl p1), some (.bl p2), some (.ref BG), o11, o12, o13] ∧ Same G2 H' ∧ H' BG = some (.lst ((bg.map fun (k : Nat) => (k : Int)).map V.int)), ?_, ?_⟩
      · refine ⟨_, rfl, p, ys, rfl, .inr hp2, _, _, rfl, rfl, _, rfl, by omega, by omega, fun BG hBG => ?_⟩
        refine lc_mf (ds := List.range (tale.length + 1)) (wk_range (a := BG)) (fun k => decide (endW T.steps 0 (tale.take k) ∈ T.good)) (fun _ y' k => y' = .int (k : Nat)) trivial hBG (by simp; rw [alt.len]) (fun j y' k H' ey ed s m => ?_) (fun G3 zs t3 e3 al3 => ?_)
        · obtain ⟨rfl, hj⟩ := rng_at ey
          obtain ⟨ekj, hk⟩ : j = k ∧ j < tale.length + 1 := by
            have e := List.getElem?_eq_some_iff.mp ed
            obtain ⟨h1, h2⟩ := e
            rw [List.getElem_range] at h2
            rw [List.length_range] at h1
            exact ⟨h2, h1⟩
          subst ekj
          refine ⟨rfl, _, rfl, _, rfl, _, rfl, _, rfl, ?_⟩
          rw [Int.zero_add]
          refine slA_take (n := j) (tupFix (Fix.of s) hp2) fun b G4 t4 hb4 => ?_
          have sX := (sA.trans t12).trans (s.trans t4)
          refine ⟨.ref ta, b, bx, T, ys.take j, tale.take j, rfl, ht.same sX, ok, .inr hb4, (tx_all (s.trans t4) tx2).take j, fun G5 t5 => ?_⟩
          obtain ⟨_, tg', _, _, e1, tq', tg1', _⟩ := id (ht.same (sX.trans t5))
          cases e1
          refine ⟨_, rfl, ta, _, _, .ref tg', rfl, rfl, tq', rfl, in_ints (SqX.lst tg1') ⟨_, rfl, ?_⟩⟩
          cases c : decide (endW T.steps 0 (tale.take j) ∈ T.good) with
          | true => exact iteT ⟨_, rfl, mf_yes m hBG (fun _ _ _ _ _ h => h) ed (by rw [List.length_range]; omega) (t4.trans t5) c rfl⟩
          | false => exact iteF (mf_no m (fun _ _ _ _ _ h => h) ed (t4.trans t5) c)
        · refine ⟨BG, o5, o6, o7, rfl, t3, ?_⟩
          rw [e3, al3.map_eq (f := fun (k : Nat) => V.int (k : Int)) fun _ _ h => h, List.map_map]; rfl
      rintro σ G3 ⟨BG, o11, o12, o13, rfl, t3, e3⟩
      have hp1 : p1 = decide (endW T.steps 0 tale ∈ T.good) := rfl
      have hp2' : p2 = decide (endW T2.steps 0 tale ∈ T2.good) := rfl
      have hbg : bg = (List.range (tale.length + 1)).filter fun k => decide (endW T.steps 0 (tale.take k) ∈ T.good) := rfl
      clear_value p1 p2 bg
      refine ⟨fun σ H' => ∃ du o12 o13, σ = [some b0, some one, some other, some (.ref ta), some (.ref ma), some (.ref tl), some (.ref sm), some (.ref p), some (.bl p1), some (.bl p2), some (.ref BG), some (.ref du), o12, o13] ∧ Same G3 H' ∧ H' du = some (.lst ([!p1, p1 && p2, p1 || p2, decide (bg ≠ [])].map V.bl)), ?_, ?_⟩
      · have e0 : (!PyData.eqv (.list ((bg.map fun (k : Nat) => (k : Int)).map .int)) (.list [])) = decide (bg ≠ []) := by
          rw [eqv_nil_i]
          by_cases c : bg = []
          · rw [c]; rfl
          · rw [decide_eq_true c, decide_eq_false (by simpa using c)]; rfl
        refine ⟨_, rfl, _, rfl, _, rfl, _, rfl, ?_⟩
        cases p1 with
        | false =>
          refine iteF ⟨_, rfl, _, rfl, iteF ⟨_, rfl, _, rfl, Nat.zero_le _, fun nl hnl => ?_⟩⟩
          have tn := same_new hnl (.lst [])
          refine ⟨_, _, .lst (SqL.of (tn _ _ e3)) (dp_intl _), .lst (SqL.of upd_same) .nil, (sh_ils _).ok (by decide), by decide, ?_⟩
          rw [e0]
          exact ⟨by show 4 ≤ sizeLine; decide, fun du hdu => ⟨du, o12, o13, rfl, tn.trans (same_new hdu _), upd_same⟩⟩
        | true =>
          refine iteT ⟨_, rfl, _, rfl, _, rfl, iteT ⟨_, rfl, Nat.zero_le _, fun nl hnl => ?_⟩⟩
          have tn := same_new hnl (.lst [])
          refine ⟨_, _, .lst (SqL.of (tn _ _ e3)) (dp_intl _), .lst (SqL.of upd_same) .nil, (sh_ils _).ok (by decide), by decide, ?_⟩
          rw [e0]
          exact ⟨by show 4 ≤ sizeLine; decide, fun du hdu => ⟨du, o12, o13, rfl, tn.trans (same_new hdu _), upd_same⟩⟩
      rintro σ G4 ⟨du, o12, o13, rfl, t4, e4⟩
      have z4 := (t12.trans t3).trans t4
      have hp4 : SqT K G4 p ys := tupFix (Fix.of z4) hp
      have tx4 := tx_all z4 tx0
      have ws4 := ws.imp fun _ _ h => WA.same (z0.trans z4) h
      refine ⟨_, rfl, sm, _, rfl, SqX.lst (z4 _ _ (z0 _ _ es)), fun J S Wk4 y0 D4 hD4 => ?_⟩
      refine lc_mf (ds := [deny (mkT T), pairW (mkT T) (mkT T2) 2 Ps, pairW (mkT T2) (mkT T) 1 Qs, met (mkT T)]) Wk4 (fun _ => true) (fun _ v W => v = .bl (takesW W tale)) y0 hD4 rfl (fun j v W H' ev eW s m => ?_) (fun G7 vs t7 e7 al7 => ?_)
      · obtain ⟨W', eW', hW⟩ := ws4.get ev
        obtain rfl : W' = W := Option.some.inj (eW'.symm.trans eW)
        have hW := hW.same s
        obtain ⟨wa, wdx, wg, wst, wits, rfl, w0, w1⟩ := id hW
        exact ⟨rfl, _, rfl, wa, wdx, _, rfl, w0, fl_no _ _ _ (by decide +kernel) (by decide +kernel) (by decide +kernel), _, rfl, .ref wa, p, W', ys, tale, rfl, hW, .inr (tupFix (Fix.of s) hp4), tx_all s tx4, fun H'' s'' => mf_yes m hD4 (fun _ _ _ _ _ h => h) eW (by show 4 ≤ 100000; decide) s'' rfl rfl⟩
      rw [List.filter_eq_self.mpr fun _ _ => rfl] at al7
      have e8 := al7.map_eq (f := fun W => V.bl (takesW W tale)) fun _ _ h => h
      have e9 : vs = [!p1, p1 && p2, p1 || p2, decide (bg ≠ [])].map V.bl := by
        rw [e8]
        show [V.bl _, V.bl _, V.bl _, V.bl _] = [V.bl _, V.bl _, V.bl _, V.bl _]
        rw [takes_deny ok.ok, takes_pair cl, takes_pair cl2, met_told, sides_takes, sides_takes, takes_mkT, takes_mkT, ← hp1, ← hp2', ← hbg]
        cases p1 <;> cases p2 <;> rfl
      rw [e9] at e7
      refine ⟨_, rfl, _, _, .lst (SqL.of e7) (dp_bls _), .lst (SqL.of (t7 _ _ e4)) (dp_bls _), (sh_bls _).ok (by decide), (sh_bls _).ok (by decide), _, rfl, ?_⟩
      rw [eqv_bls, decide_eq_true rfl]
      have s7 := (z0.trans z4).trans t7
      have hw7 := hw.same (s05.trans s7)
      obtain ⟨oa, odx, og, ost, oits, eo, q0, q1⟩ := id hw7
      subst eo
      refine iteF ⟨_, rfl, oa, odx, _, rfl, q0, fl_no _ _ _ (by decide +kernel) (by decide +kernel) (by decide +kernel), _, rfl, .ref oa, p, mkT T, ys, tale, rfl, hw7, .inr (tupFix (Fix.of t7) hp4), tx_all t7 tx4, fun G8 t8 => ?_⟩
      have ep : decide (endW (mkT T).steps 0 tale ∈ (mkT T).good) = p1 := (takes_mkT T tale).trans hp1.symm
      rw [ep]
      refine ⟨_, rfl, rfl, _, rfl, ?_⟩
      rw [decide_eq_true rfl]
      exact iteF ⟨⟨_, _, _, _, _, _, _, rfl⟩, s7.trans t8⟩
    rintro σ H' ⟨⟨o1, o2, o3, o4, o5, o6, o7, rfl⟩, s6⟩
    have hw6 := hw.same (s05.trans s6)
    refine ⟨_, rfl, one, mkT T, rfl, hw6, ok.ok, by show T.n < 64; omega, fun d1 H1 u1 cd1 => ?_⟩
    refine ⟨d1, deny (mkT T), rfl, cd1, ok_deny ok.ok (by show T.n < 64; omega), by show T.n < 64; omega, fun d2 H2 u2 cd2 => ?_⟩
    have al6 := al9.imp fun _ _ h => h.fix (Fix.of ((s6.trans u1).trans u2))
    have htl6 := (((s6.trans u1).trans u2)) _ _ htl9
    obtain ⟨tale, et⟩ : ∃ tale, tales[0]? = some tale := ⟨tales[0], List.getElem?_eq_getElem l0⟩
    obtain ⟨v, ev, p, ys, rfl, hp, alt, l6⟩ := al6.getR et
    have tx0 : All2 (TX K H2) ys tale := alt.imp fun _ _ h => h.tx
    obtain ⟨da, ddx, dg, dst, dits, rfl, q0, q1⟩ := id cd2
    refine ⟨da, ddx, _, rfl, q0, fl_no _ _ _ (by decide +kernel) (by decide +kernel) (by decide +kernel), _, rfl, tl, its, 0, .ref p, rfl, rfl, SqL.of htl6, atI_nat (j := 0) ev, .ref da, p, deny (deny (mkT T)), ys, tale, rfl, cd2, .inr hp, tx0, fun H3 u3 => ?_⟩
    have hw8 := ((hw6.same u1).same u2).same u3
    obtain ⟨oa, odx, og, ost, oits, rfl, r0, r1⟩ := id hw8
    refine ⟨_, rfl, oa, odx, _, rfl, r0, fl_no _ _ _ (by decide +kernel) (by decide +kernel) (by decide +kernel), _, rfl, tl, its, 0, .ref p, rfl, rfl, SqL.of (u3 _ _ htl6), atI_nat (j := 0) ev, .ref oa, p, mkT T, ys, tale, rfl, hw8, .inr (tupFix (Fix.of u3) hp), tx_all u3 tx0, fun H4 u4 => ?_⟩
    have ed : decide (endW (deny (deny (mkT T))).steps 0 tale ∈ (deny (deny (mkT T))).good) = decide (endW (mkT T).steps 0 tale ∈ (mkT T).good) := by
      show takesW (deny (deny (mkT T))) tale = takesW (mkT T) tale
      rw [takes_deny (ok_deny ok.ok (by show T.n < 64; omega)), takes_deny ok.ok, Bool.not_not]
    rw [ed]
    refine ⟨rfl, ?_⟩
    rw [decide_eq_true rfl]
    exact q _ (((((s05.trans s6).trans u1).trans u2).trans u3).trans u4)
end
end Kd

namespace Kd
open PySem PySem.Spec PyProof.Rows L2 Hb St Sq Ow En
/-- a comprehension: M stands before the i-th item -/
theorem lc_go {J : It} {a : Addr} {S : Hp → Prop} {xs : List V} (W : Wk J a S xs) {g : TG} {tt : TT} {te : TE} {vs : List Nat} {σ : L2.St} {H1 : Hp} {D : Addr} {Qd : Hp → Prop} (M : Nat → Hp → Prop)
    (h0 : M 0 (upd H1 D (.lst []))) (stand : ∀ i H, M i H → S H)
    (hs : ∀ i x H, xs[i]? = some x → M i H → g x (wipe σ vs) H fun σ2 H2 => wipe σ2 vs = wipe σ vs ∧ tt σ2 H2 fun b H3 =>
      if b = true then te σ2 H3 fun y H4 => ∃ acc, H4 D = some (.lst acc) ∧ acc.length < sizeLine ∧ M (i + 1) (upd H4 D (.lst (acc ++ [y]))) else M (i + 1) H3)
    (hd : ∀ H, M xs.length H → Qd H) :
    ∃ W : Nat → Nat → Hp → Prop, (∃ m, W 0 m (upd H1 D (.lst []))) ∧ ∀ i m H, W i m H →
      (J.stop i H ∧ Qd H) ∨ (J.go i H ∧ ∃ Nx : Hp → Prop, (∀ H', Nx H' → ∃ m', m' < m ∧ W (i + 1) m' H') ∧ ∀ v H', J.yld i H v H' → g v (wipe σ vs) H' fun σ2 H2 => wipe σ2 vs = wipe σ vs ∧ tt σ2 H2 fun b H3 =>
        if b = true then te σ2 H3 fun y H4 => ∃ acc, H4 D = some (.lst acc) ∧ acc.length < sizeLine ∧ Nx (upd H4 D (.lst (acc ++ [y]))) else Nx H3) := by
  refine ⟨fun i m H => m + i = xs.length ∧ M i H, ⟨xs.length, rfl, h0⟩, fun i m H ⟨e, p⟩ => ?_⟩
  cases m with
  | zero =>
    obtain rfl : i = xs.length := by omega
    exact .inl ⟨W.stop H (stand _ _ p), hd H p⟩
  | succ m =>
    have hi : i < xs.length := by omega
    refine .inr ⟨W.go i H hi (stand _ _ p), M (i + 1), fun H' p' => ⟨m, Nat.lt_succ_self m, by omega, p'⟩, fun v H' y => ?_⟩
    obtain ⟨rfl, ev⟩ := W.yld i H v H' hi (stand _ _ p) y
    exact hs i v H' ev p
def tRev (K : PySem.W.Frag) (te : TE) : TE := fun σ H Q => te σ H fun x H1 => ∃ a xs, x = .ref a ∧ SqL K H1 a xs ∧ ∀ p, H1 p = none → Q (.ref p) (upd H1 p (.lst xs.reverse))
theorem pe_revK {X : Cx} {e st : Expr} {te ts : TE} {p3 pos : Pos} (K : PySem.W.Frag) (he : PE X e te) (hs : PE X st ts) (hN : ∀ σ H (Q : VK), Q (.int (-1)) H → ts σ H Q) (hK : X.K = K := by rfl) : PE X (.Subscript e (.Slice none none (some st) p3) pos) (tRev K te) := by
  subst hK
  exact pe_rev he hs hN
theorem cut_take {xs : List V} {n : Nat} : cutV xs none (some (n : Nat)) = xs.take n := by
  unfold cutV
  rw [HT.sIx_none, HT.sIx_nat, List.drop_zero, Nat.sub_zero, List.take_eq_take_iff]
  omega
/-- a told step with lists of its own -/
def StM (H0 : Hp) (D : Addr) (H : Hp) (v : V) (s : Stp) : Prop := ∃ a nl bt, v = .ref a ∧ H a = some (.tup [.int s.b, .ref nl, .ref bt, .int s.e]) ∧ H nl = some (.lst (s.need.map V.str)) ∧ H bt = some (.tup (s.bar.map V.str)) ∧ H0 nl = none ∧ nl ≠ D
theorem StM.si {K : PySem.W.Frag} {H0 H : Hp} {D : Addr} {v : V} {s : Stp} (h : StM H0 D H v s) : SI K H v s := let ⟨a, nl, bt, e, q0, q1, q2, _⟩ := h; ⟨a, .ref nl, .ref bt, e, SqT.of q0, ⟨nl, rfl, SqX.lst q1⟩, ⟨bt, rfl, SqX.tup q2⟩⟩
theorem StM.same {H0 H H' : Hp} {D : Addr} {v : V} {s : Stp} (h : StM H0 D H v s) (k : Same H H') : StM H0 D H' v s := let ⟨a, nl, bt, e, q0, q1, q2, r⟩ := h; ⟨a, nl, bt, e, k _ _ q0, k _ _ q1, k _ _ q2, r⟩
theorem StM.keep {H0 H H' : Hp} {D : Addr} {v : V} {s : Stp} {ys : List V} (h : StM H0 D H v s) (e : H D = some (.lst ys)) (k : Kept D H H') : StM H0 D H' v s :=
  let ⟨a, nl, bt, ev, q0, q1, q2, r0, r⟩ := h; ⟨a, nl, bt, ev, k _ _ q0 (ne_of q0 e (by intro z; cases z)), k _ _ q1 r, k _ _ q2 (ne_of q2 e (by intro z; cases z)), r0, r⟩
/-- .. neither at D nor at g -/
def StN (H0 : Hp) (D g : Addr) (H : Hp) (v : V) (s : Stp) : Prop := ∃ a nl bt, v = .ref a ∧ H a = some (.tup [.int s.b, .ref nl, .ref bt, .int s.e]) ∧ H nl = some (.lst (s.need.map V.str)) ∧ H bt = some (.tup (s.bar.map V.str)) ∧ H0 nl = none ∧ nl ≠ D ∧ nl ≠ g
theorem StN.si {K : PySem.W.Frag} {H0 H : Hp} {D g : Addr} {v : V} {s : Stp} (h : StN H0 D g H v s) : SI K H v s := let ⟨a, nl, bt, e, q0, q1, q2, _⟩ := h; ⟨a, .ref nl, .ref bt, e, SqT.of q0, ⟨nl, rfl, SqX.lst q1⟩, ⟨bt, rfl, SqX.tup q2⟩⟩
theorem StN.same {H0 H H' : Hp} {D g : Addr} {v : V} {s : Stp} (h : StN H0 D g H v s) (k : Same H H') : StN H0 D g H' v s := let ⟨a, nl, bt, e, q0, q1, q2, r⟩ := h; ⟨a, nl, bt, e, k _ _ q0, k _ _ q1, k _ _ q2, r⟩
theorem StN.put {H0 H : Hp} {D g z : Addr} {v : V} {s : Stp} {ys zs : List V} (h : StN H0 D g H v s) (e : H z = some (.lst ys)) (hz : z = D ∨ z = g) : StN H0 D g (upd H z (.lst zs)) v s := by
  obtain ⟨a, nl, bt, ev, q0, q1, q2, r0, r1, r2⟩ := h
  exact ⟨a, nl, bt, ev, by rw [upd_ne (ne_of q0 e (by intro z; cases z))]; exact q0, by rw [upd_ne (by rcases hz with rfl | rfl; exact r1; exact r2)]; exact q1, by rw [upd_ne (ne_of q2 e (by intro z; cases z))]; exact q2, r0, r1, r2⟩
def TXk (bx : Addr) (K : PySem.W.Frag) (H : Hp) (v : V) (xs : List Str) : Prop := ∃ a, v = .ref a ∧ ((H a = some (.lst (xs.map V.str)) ∧ a ≠ bx) ∨ SqT K H a (xs.map V.str))
/-- a step handed in, its lists not at bx -/
def SIk (bx : Addr) (K : PySem.W.Frag) (H : Hp) (v : V) (s : Stp) : Prop := ∃ a n r, v = .ref a ∧ SqT K H a [.int s.b, n, r, .int s.e] ∧ TXk bx K H n s.need ∧ TXk bx K H r s.bar
theorem TXk.kept {bx : Addr} {K : PySem.W.Frag} {H H' : Hp} {v : V} {xs : List Str} (h : TXk bx K H v xs) (b : BoxAt H bx) (k : Kept bx H H') : TXk bx K H' v xs := let ⟨a, e, q⟩ := h; ⟨a, e, q.imp (fun ⟨e, n⟩ => ⟨k _ _ e n, n⟩) (tupFix (b.fix k))⟩
theorem TXk.tx {bx : Addr} {K : PySem.W.Frag} {H : Hp} {v : V} {xs : List Str} (h : TXk bx K H v xs) : TX K H v xs := let ⟨a, e, q⟩ := h; ⟨a, e, q.imp (fun ⟨e, _⟩ => SqL.of e) id⟩
theorem SIk.kept {bx : Addr} {K : PySem.W.Frag} {H H' : Hp} {v : V} {s : Stp} (h : SIk bx K H v s) (b : BoxAt H bx) (k : Kept bx H H') : SIk bx K H' v s := let ⟨a, n, r, e, q, q1, q2⟩ := h; ⟨a, n, r, e, tupFix (b.fix k) q, q1.kept b k, q2.kept b k⟩
theorem SIk.si {bx : Addr} {K : PySem.W.Frag} {H : Hp} {v : V} {s : Stp} (h : SIk bx K H v s) : SI K H v s := let ⟨a, n, r, e, q, q1, q2⟩ := h; ⟨a, n, r, e, q, q1.tx, q2.tx⟩
theorem StN.sik {bx : Addr} {K : PySem.W.Frag} {H0 H : Hp} {D g : Addr} {v : V} {s : Stp} (h : StN H0 D g H v s) (b : BoxAt H0 bx) : SIk bx K H v s := let ⟨a, nl, bt, e, q0, q1, q2, r, _⟩ := h; ⟨a, .ref nl, .ref bt, e, SqT.of q0, ⟨nl, rfl, .inl ⟨q1, ne_bx b r⟩⟩, ⟨bt, rfl, .inr (SqT.of q2)⟩⟩
theorem mkT_eq {T T2 : Wd} (ok : TOk T) (ok2 : TOk T2) : mkT T = mkT T2 ↔ T.n = T2.n ∧ T.good = T2.good ∧ T.steps.map nrm = T2.steps.map nrm := by
  have e1 := (lotI_eq ok.asc fun _ => Iff.rfl).symm
  have e2 := (lotI_eq ok2.asc fun _ => Iff.rfl).symm
  unfold mkT mkW
  rw [e1, e2, Wd.mk.injEq]
theorem eqv_li (a b : List Int) : PyData.eqv (.list (a.map .int)) (.list (b.map .int)) = decide (a = b) := eqvAll_map eqv_int a b
theorem OkS.up {n : Int} {s : Stp} (h : OkS n s) : OkS (n + 1) s := ⟨h.b0, by have := h.b1; omega, h.e0, by have := h.e1; omega, h.nn, h.nb, h.ln, h.lb⟩
theorem flip_ne {T : Wd} (ok : TOk T) {ss : List Stp} : ¬ mkT T = ⟨T.n, lotI (((List.range T.n.toNat).map fun (k : Nat) => (k : Int)).filter fun i => !decide (i ∈ T.good)), ss⟩ := fun h => by
  have e : (mkT T).good = lotI (((List.range T.n.toNat).map fun (k : Nat) => (k : Int)).filter fun i => !decide (i ∈ T.good)) := by rw [h]
  have n2 := ok.n2
  have z : (0 : Int) ∈ (List.range T.n.toNat).map fun (k : Nat) => (k : Int) := List.mem_map.mpr ⟨0, List.mem_range.mpr (by omega), rfl⟩
  have i1 : (0 : Int) ∈ T.good ↔ (0 : Int) ∈ (mkT T).good := mem_lotI.symm
  rw [e, mem_lotI, List.mem_filter] at i1
  by_cases c : (0 : Int) ∈ T.good
  · have := (i1.mp c).2
    rw [decide_eq_true c] at this; cases this
  · exact c (i1.mpr ⟨z, by rw [decide_eq_false c]; rfl⟩)
theorem all2_ex {α β : Type} {R : α → β → Prop} {q : β → Prop} : ∀ {l : List α}, (∀ v ∈ l, ∃ s, R v s ∧ q s) → ∃ ss, All2 R l ss ∧ ∀ s ∈ ss, q s
  | [], _ => ⟨[], .nil, fun _ h => by cases h⟩
  | a :: l, h => by
    obtain ⟨s, h1, h2⟩ := h a List.mem_cons_self
    obtain ⟨ss, k1, k2⟩ := all2_ex (l := l) fun v hv => h v (List.mem_cons_of_mem _ hv)
    exact ⟨s :: ss, .cons h1 k1, fun z hz => (List.mem_cons.mp hz).elim (fun e => e ▸ h2) (k2 z)⟩
theorem nm_odd : IsNm "odd" := ⟨by decide +kernel, by decide +kernel, by decide +kernel⟩
theorem nm_other : IsNm "other" := ⟨by decide +kernel, by decide +kernel, by decide +kernel⟩
def StOk (n : Int) (i : Nat) (s : Stp) : Prop := OkS n s ∧ s.need.length ≤ 8 + i ∧ s.bar.length ≤ 4
/-- where the changing of steps stands -/
structure Mu (n : Int) (H6 Hs : Hp) (D g : Addr) (its gs : List V) (i : Nat) (H : Hp) : Prop where
  old : Same H6 H
  fix : Fix Hs H
  eD : H D = some (.lst its)
  eg : H g = some (.lst gs)
  it : ∀ v ∈ its, ∃ s, StN H6 D g H v s ∧ StOk n i s
theorem Mu.step {n : Int} {H6 Hs H : Hp} {D g : Addr} {its gs : List V} {i : Nat} (m : Mu n H6 Hs D g its gs i H) (i4 : i ≤ 4) {a nl bt : Addr} {s : Stp} (q1 : H nl = some (.lst (s.need.map V.str))) (r0 : H6 nl = none) (r1 : nl ≠ D) (r2 : nl ≠ g) (so : StOk n i s) :
    Mu n H6 Hs D g its gs (i + 1) (upd H nl (.lst (s.need.map V.str ++ [V.str "odd"]))) where
  old := fun b o e => by rw [upd_ne (ne_of_none e r0)]; exact m.old b o e
  fix := m.fix.trans (Fix.lst q1)
  eD := by rw [upd_ne r1.symm]; exact m.eD
  eg := by rw [upd_ne r2.symm]; exact m.eg
  it := fun v hv => by
    obtain ⟨t, ⟨ta, tn, tb, ev, p0, p1, p2, c0, c1, c2⟩, ok, l1, l2⟩ := m.it v hv
    by_cases z : tn = nl
    · subst z
      have en : t.need = s.need := by
        rw [q1] at p1
        have := Option.some.inj p1
        injection this with h
        exact (List.map_inj_right (fun a b h => by injection h)).mp h.symm
      refine ⟨⟨t.b, t.need ++ [("odd" : Str)], t.bar, t.e⟩, ⟨ta, tn, tb, ev, by rw [upd_ne (ne_of p0 q1 (by intro z; cases z))]; exact p0, by rw [upd_same, en, List.map_append]; rfl, by rw [upd_ne (ne_of p2 q1 (by intro z; cases z))]; exact p2, c0, c1, c2⟩, ⟨ok.b0, ok.b1, ok.e0, ok.e1, fun x hx => (List.mem_append.mp hx).elim (ok.nn x) fun h => by rw [List.mem_singleton.mp h]; exact nm_odd, ok.nb, ?_, ok.lb⟩, ?_, l2⟩
      · show (t.need ++ [("odd" : Str)]).length ≤ 1000; rw [List.length_append]; show _ + 1 ≤ _; omega
      · show (t.need ++ [("odd" : Str)]).length ≤ _; rw [List.length_append]; show _ + 1 ≤ _; omega
    · exact ⟨t, ⟨ta, tn, tb, ev, by rw [upd_ne (ne_of p0 q1 (by intro z; cases z))]; exact p0, by rw [upd_ne z]; exact p1, by rw [upd_ne (ne_of p2 q1 (by intro z; cases z))]; exact p2, c0, c1, c2⟩, ok, by omega, l2⟩
theorem Mu.le {n : Int} {H6 Hs H : Hp} {D g : Addr} {its gs : List V} {i j : Nat} (m : Mu n H6 Hs D g its gs i H) (h : i ≤ j) : Mu n H6 Hs D g its gs j H := ⟨m.old, m.fix, m.eD, m.eg, fun v hv => let ⟨s, a, o, l1, l2⟩ := m.it v hv; ⟨s, a, o, by omega, l2⟩⟩
theorem sorted_same {xs ys : List Int} (pm : xs.Perm ys) (so : xs.Pairwise (· ≤ ·)) (asc : ys.Pairwise (· < ·)) : xs = ys := by
  have nd : xs.Nodup := pm.nodup_iff.mpr (asc.imp fun h => Int.ne_of_lt h)
  have a1 : xs.Pairwise (· < ·) := (so.and nd).imp fun h => Int.lt_iff_le_and_ne.mpr h
  rw [lotI_eq a1 fun x => pm.mem_iff, ← lotI_eq asc fun x => Iff.rfl]
theorem names_nrm (ss : List Stp) : lotS (namesOf (ss.map nrm)) = lotS (namesOf ss) := lotS_congr fun x => by
  unfold namesOf nrm
  simp only [List.mem_flatMap, List.mem_map, List.mem_append]
  constructor
  · rintro ⟨_, ⟨t, ht, rfl⟩, h⟩
    exact ⟨t, ht, h.imp mem_lotS.mp mem_lotS.mp⟩
  · rintro ⟨t, ht, h⟩
    exact ⟨_, ⟨t, ht, rfl⟩, h.imp mem_lotS.mpr mem_lotS.mpr⟩
theorem names_len {ss : List Stp} (h : ∀ s ∈ ss, s.need.length ≤ 8 ∧ s.bar.length ≤ 8) : (namesOf ss).length ≤ 16 * ss.length := by
  induction ss with
  | nil => exact Nat.le_refl _
  | cons t r ih =>
    have h1 := h t List.mem_cons_self
    have h2 := ih fun s hs => h s (List.mem_cons_of_mem _ hs)
    unfold namesOf at h2 ⊢
    rw [List.flatMap_cons, List.length_append, List.length_append, List.length_cons]
    omega
def dbl (s : Stp) : Stp := { s with need := s.need ++ s.need.reverse }
theorem nrm_dbl (s : Stp) : nrm (dbl s) = nrm s := by
  unfold nrm dbl
  show (⟨s.b, lotS (s.need ++ s.need.reverse), lotS s.bar, s.e⟩ : Stp) = ⟨s.b, lotS s.need, lotS s.bar, s.e⟩
  rw [lotS_congr (m := s.need) fun x => by simp]
theorem TOk.lot {T : Wd} (h : TOk T) : lotI T.good = T.good := (lotI_eq h.asc fun _ => Iff.rfl).symm
theorem mkT_dbl (T : Wd) : mkW T.n (T.good ++ T.good.take 1) (T.steps.map dbl) = mkT T := by
  unfold mkT mkW
  rw [lotI_congr (m := T.good) fun x => by
    rw [List.mem_append]
    exact ⟨fun h => h.elim id List.mem_of_mem_take, .inl⟩, List.map_map]
  congr 1
  exact List.map_congr_left fun s _ => nrm_dbl s
theorem ok_dbl {T : Wd} (ok : TOk T) : ∀ s ∈ T.steps.map dbl, OkS T.n s ∧ s.need.length ≤ 8 ∧ s.bar.length ≤ 4 := fun s hs => by
  obtain ⟨t, ht, rfl⟩ := List.mem_map.mp hs
  have o := ok.sok t ht
  have l1 := ok.ln t ht
  have l2 := ok.lb t ht
  have ll : (t.need ++ t.need.reverse).length ≤ 8 := by rw [List.length_append, List.length_reverse]; omega
  exact ⟨⟨o.b0, o.b1, o.e0, o.e1, fun x hx => (List.mem_append.mp hx).elim (o.nn x) fun h => o.nn x (List.mem_reverse.mp h), o.nb, by show (t.need ++ t.need.reverse).length ≤ 1000; omega, o.lb⟩, ll, l2⟩
section
variable {P : Program} {w : World} {K : PySem.W.Frag} {mg : Str → Option Value} {base : Heap}
theorem ins_same {H : Hp} {C x dx : Addr} (hx : H x = none) (hdx : H dx = none) : Same H (upd (upd H dx (.own x)) x (.ins C dx [])) := fun b o e => by
  rw [upd_ne (ne_of_none e hx), upd_ne (ne_of_none e hdx)]; exact e
abbrev s_law : Stmt := top 43
theorem sc_law : FnScope ["script", "box", "rings", "told", "more", "one", "need", "bar", "later", "steps", "good", "wish", "other", "names", "tales", "tale", "state", "due", "lot", "is_like", "turn", "k"] ["script"] (defScope s_law) := ⟨rfl, rfl, rfl, by decide +kernel, rfl, by decide +kernel, by decide +kernel⟩
def spLaw (K : PySem.W.Frag) : Sp := fun vs H Q _ => ∃ (a : Addr) (ns : List Int), vs = [.ref a] ∧ SqL K H a (ns.map V.int) ∧ ns.length ≤ 63 ∧ ∀ H', Q (.bl true) H'
theorem ok_law {f : Addr} {fd : FuncData} (F : Fun K "law" "law" s_law f fd) (TC : Txt K mg C_Wish) (C__law_box : Cl P w K mg base "_law_box" ["script", "k"] [] 1 (spBox K)) (C__law_end : Cl P w K mg base "_law_end" ["wish", "tale"] [] 2 (spLEnd K)) (C__law_joined_right : Cl P w K mg base "_law_joined_right" ["box", "one", "other", "told", "more", "tales"] [] 9 (spJoined K C_Wish)) (C__law_lots : Cl P w K mg base "_law_lots" ["box", "rings", "many"] [] 3 (spLots K)) (C__law_made_right : Cl P w K mg base "_law_made_right" ["box", "rings", "tales"] [] 9 (spMade K)) (C__law_names : Cl P w K mg base "_law_names" ["box", "many"] [] 2 spNames) (C__law_read : Cl P w K mg base "_law_read" ["wish", "state", "lot"] [] 1 (spRead K)) (C__law_sorted_steps : Cl P w K mg base "_law_sorted_steps" ["told"] [] 1 (spSorted K)) (C__law_take : Cl P w K mg base "_law_take" ["box", "many"] [] 1 spTake) (C__law_wish : Cl P w K mg base "_law_wish" ["box", "rings"] [] 3 (spTold K)) (DK_end : ChK P w K mg base C_Wish "end" ["self", "tale", "state"] ["tale"] (fun us zs => us ++ zs ++ [.int 0]) 3 (spEnd K C_Wish)) (D_after : Ch P w K mg base C_Wish "after" ["self", "state", "lot"] [] 2 (spAfter K C_Wish)) (D_end2 : Ch P w K mg base C_Wish "end" ["self", "tale", "state"] [] 3 (spEnd K C_Wish)) (D_rung_bells : Ch P w K mg base C_Wish "rung_bells" ["self"] [] 2 (spRung K C_Wish)) (D_takes : Ch P w K mg base C_Wish "takes" ["self", "tale"] [] 4 (spTakes K C_Wish)) (MK_Wish : CmK P w K mg base "Wish" C_Wish ["self", "states", "good", "steps"] ["steps", "good", "states"] (fun us zs => us ++ zs.reverse) 5 (spInit K C_Wish)) (D_eq : Ch P w K mg base C_Wish "__eq__" ["self", "other"] [] 1 (spWEq K C_Wish)) (M_Wish : Cm P w K mg base "Wish" C_Wish ["self", "states", "good", "steps"] 5 (spInit K C_Wish)) (n_bool : mg "bool" = none) (n_isinstance : mg "isinstance" = none) (n_range : mg "range" = none) (n_set : mg "set" = none) (n_sorted : mg "sorted" = none) (n_tuple : mg "tuple" = none) : FnOk P w K mg base CX0 10 f fd ["script"] (spLaw K) := by
  refine F.ok sc_law (fun vs H Q E h => ?_) (fun cdv A outer s H vs Q E hr h => ?_)
  · obtain ⟨_, _, rfl, _⟩ := h
    rfl
  · obtain ⟨a0, ns, rfl, hns, n63, q⟩ := h
    refine ⟨_, (pss_cons (ps_set (i := 1) sc_law.nd rfl (Or.inr rfl) (pe_use C__law_box (hr.mono (by decide)) rfl (pa_cons (pv 0) (pa_cons pe_int pa_nil))))
    (pss_cons (ps_set (i := 2) sc_law.nd rfl (Or.inr rfl) (pe_use C__law_names (hr.mono (by decide)) rfl (pa_cons (pv 1) (pa_cons (pe_op op_add pe_int (pe_use C__law_take (hr.mono (by decide)) rfl (pa_cons (pv 1) (pa_cons pe_int pa_nil)))) pa_nil))))
    (Evl.pss_cut (ps_asg (pe_tup (pa_cons (pe_use C__law_wish (hr.mono (by decide)) rfl (pa_cons (pv 1) (pa_cons (pv 2) pa_nil))) (pa_cons (pe_use C__law_wish (hr.mono (by decide)) rfl (pa_cons (pv 1) (pa_cons (pv 2) pa_nil))) pa_nil))) (pg_tup rfl (pgs_cons (pg_name (i := 3) sc_law.nd rfl (Or.inr rfl)) (pgs_cons (pg_name (i := 4) sc_law.nd rfl (Or.inl rfl)) pgs_nil))))
    (Evl.pss_cut (ps_setLc (i := 9) (own := [("one", 5), ("need", 6), ("bar", 7), ("later", 8)]) (g := gTup K 4 (gCons (gName 5) (gCons (gName 6) (gCons (gName 7) (gCons (gName 8) gNil))))) (by rfl) sc_law.nd rfl rfl (sw_true rfl rfl rfl (by decide +kernel)) (pi_seq (pe_ix ix_tup (pv 3) pe_int (fun _ _ => rfl))) (blkOk_by (N := ["script", "box", "rings", "told", "more", "one", "need", "bar", "later", "steps", "good", "wish", "other", "names", "tales", "tale", "state", "due", "lot", "is_like", "turn", "k"]) (sc := defScope s_law) (by decide +kernel)) (fun _ _ _ _ _ => pg_tup rfl (pgs_cons (pg_name (i := 5) sc_law.nd rfl (Or.inl rfl)) (pgs_cons (pg_name (i := 6) sc_law.nd rfl (Or.inl rfl)) (pgs_cons (pg_name (i := 7) sc_law.nd rfl (Or.inl rfl)) (pgs_cons (pg_name (i := 8) sc_law.nd rfl (Or.inl rfl)) pgs_nil))))) (fun _ _ _ _ _ => pts_nil) (fun _ _ _ _ _ => pe_tup (pa_cons (pv 5) (pa_cons (pe_op op_cat (pv 6) (pe_revK K (pv 6) (pe_op op_sub pe_int pe_int) (fun _ _ _ q => ⟨0, 1, rfl, rfl, q⟩))) (pa_cons (pe_callTy (T := "tuple") (r := rTupE K) call_tupE (by rfl) n_tuple (by decide +kernel) (pa_cons (pv 7) pa_nil)) (pa_cons (pv 8) pa_nil))))))
    (pss_cons (ps_set (i := 10) sc_law.nd rfl (Or.inl rfl) (pe_op op_cat (pe_ix ix_tup (pv 3) pe_int (fun _ _ => rfl)) (pe_slice (r := rSlL K) sl_list (pe_ix ix_tup (pv 3) pe_int (fun _ _ => rfl)) po_none (po_some pe_int))))
    (pss_cons (ps_par (i := 11) (j := 12) (by rfl) sc_law.nd rfl rfl (by decide) rfl rfl (pa_cons (pe_newK MK_Wish (hr.mono (by decide)) rfl (pk_cons (pv 9) (pk_cons (pv 10) (pk_cons (pe_ix ix_tup (pv 3) pe_int (fun _ _ => rfl)) pk_nil)))) (pa_cons (pe_new M_Wish (hr.mono (by decide)) rfl (pa_cons (pe_ix ix_tup (pv 4) pe_int (fun _ _ => rfl)) (pa_cons (pe_callTy call_tuple_of (by rfl) n_tuple (by decide +kernel) (pa_cons (pe_ix ix_tup (pv 4) pe_int (fun _ _ => rfl)) pa_nil)) (pa_cons (pe_callTy call_tuple_of (by rfl) n_tuple (by decide +kernel) (pa_cons (pe_ix ix_tup (pv 4) pe_int (fun _ _ => rfl)) pa_nil)) pa_nil)))) pa_nil)) (by rfl))
    (Evl.pss_cut (ps_for PassesOwn.never rfl (pi_seq (pv 9)) (pg_tup rfl (pgs_cons (pg_name (i := 5) sc_law.nd rfl (Or.inl rfl)) (pgs_cons (pg_name (i := 6) sc_law.nd rfl (Or.inl rfl)) (pgs_cons (pg_name (i := 7) sc_law.nd rfl (Or.inl rfl)) (pgs_cons (pg_name (i := 8) sc_law.nd rfl (Or.inl rfl)) pgs_nil)))))
      (pss_one (ps_expr (pe_bm PySem.F.plainAttrs_list PySem.F.slot_list_append PySem.F.type_list_append mt_append (pv 6) (pa_cons pe_str pa_nil)))))
    (pss_cons (ps_expr (pe_bm PySem.F.plainAttrs_list PySem.F.slot_list_append PySem.F.type_list_append mt_append (pv 10) (pa_cons pe_int pa_nil)))
    (pss_cons (ps_expr (pe_bm PySem.F.plainAttrs_list PySem.F.slot_list_append PySem.F.type_list_append mt_append (pv 9) (pa_cons (pe_tup (pa_cons pe_int (pa_cons (pe_lst (pa_cons pe_str pa_nil)) (pa_cons (pe_lst pa_nil) (pa_cons pe_int pa_nil))))) pa_nil)))
    (Evl.pss_cut (ps_if (PW.pt (pw_or (pt_cmpR op_ne (pe_fld (pv 11) rfl) (pe_ix ix_tup (pv 3) pe_int (fun _ _ => rfl)) (nomark _)) (pw_or (pt_cmpR (op_neD hr.units) (pe_fld (pv 11) rfl) (pe_callTy call_tuple_of (by rfl) n_tuple (by decide +kernel) (pa_cons (pe_callB cr_sorted (by rfl) n_sorted (by decide +kernel) (pa_cons (pe_ix ix_tup (pv 3) pe_int (fun _ _ => rfl)) pa_nil)) pa_nil)) (nomark _)) (pw_or1 (pt_cmpR (op_neD hr.units) (pe_fld (pv 11) rfl) (pe_use C__law_sorted_steps (hr.mono (by decide)) rfl (pa_cons (pv 3) pa_nil)) (nomark _)))))) (pss_one (ps_ret pe_bl)) pss_nil)
    (pss_cons (ps_set (i := 13) sc_law.nd rfl (Or.inl rfl) (pe_lst pa_nil))
    (Evl.pss_cut (ps_for PassesOwn.never rfl (pi_seq (pe_ix ix_tup (pv 3) pe_int (fun _ _ => rfl))) (pg_tup rfl (pgs_cons (pg_name (i := 5) sc_law.nd rfl (Or.inl rfl)) (pgs_cons (pg_name (i := 6) sc_law.nd rfl (Or.inl rfl)) (pgs_cons (pg_name (i := 7) sc_law.nd rfl (Or.inl rfl)) (pgs_cons (pg_name (i := 8) sc_law.nd rfl (Or.inl rfl)) pgs_nil)))))
      (pss_one (ps_set (i := 13) sc_law.nd rfl (Or.inl rfl) (pe_op op_cat (pe_op op_cat (pv 13) (pv 6)) (pv 7)))))
    (Evl.pss_cut (ps_if (PW.pt (pw_or (pt_cmpR (op_neD hr.units) (pe_do0 D_rung_bells TC.cl (hr.mono (by decide)) (pv 11)) (pe_callTy call_tuple_of (by rfl) n_tuple (by decide +kernel) (pa_cons (pe_callB (cr_sorted2 rfl) (by rfl) n_sorted (by decide +kernel) (pa_cons (pe_callTy (cr_set rfl) (by rfl) n_set (by decide +kernel) (pa_cons (pv 13) pa_nil)) pa_nil)) pa_nil)) (nomark _)) (pw_or1 (pt_val (pe_callB call_isi (by rfl) n_isinstance (by decide +kernel) (pa_cons (pe_fld (pv 11) rfl) (pa_cons (pe_bltn (v := .ty "bool") (by rfl) n_bool (by decide +kernel) rfl) pa_nil))))))) (pss_one (ps_ret pe_bl)) pss_nil)
    (pss_cons (ps_set (i := 14) sc_law.nd rfl (Or.inl rfl) (pe_op op_cat (pe_lc (own := [("turn", 20)]) (g := gName 20) rfl sc_law.nd (pi_range1 (by rfl) n_range (pa_cons pe_int pa_nil)) (blkOk_by (N := ["script", "box", "rings", "told", "more", "one", "need", "bar", "later", "steps", "good", "wish", "other", "names", "tales", "tale", "state", "due", "lot", "is_like", "turn", "k"]) (sc := defScope s_law) (by decide +kernel)) (fun _ _ _ _ _ => pg_name (i := 20) sc_law.nd rfl (Or.inl rfl)) (fun _ _ _ _ _ => pts_nil) (fun _ _ _ _ _ => pe_use C__law_lots (hr.mono (by decide)) rfl (pa_cons (pv 1) (pa_cons (pe_op op_cat (pv 2) (pe_lst (pa_cons pe_str pa_nil))) (pa_cons (pe_use C__law_take (hr.mono (by decide)) rfl (pa_cons (pv 1) (pa_cons pe_int pa_nil))) pa_nil))))) (pe_lst (pa_cons (pe_tup pa_nil) pa_nil))))
    (Evl.pss_cut (ps_for PassesOwn.never rfl (pi_seq (pv 14)) (pg_name (i := 15) sc_law.nd rfl (Or.inl rfl))
      (pss_cons (ps_set (i := 16) sc_law.nd rfl (Or.inl rfl) (pe_use C__law_take (hr.mono (by decide)) rfl (pa_cons (pv 1) (pa_cons (pe_ix ix_tup (pv 3) pe_int (fun _ _ => rfl)) pa_nil))))
    (pss_cons (ps_set (i := 17) sc_law.nd rfl (Or.inl rfl) (pv 16))
    (Evl.pss_cut (ps_for PassesOwn.never rfl (pi_seq (pv 15)) (pg_name (i := 18) sc_law.nd rfl (Or.inl rfl))
      (Evl.pss_cut (ps_if (pt_cmpR op_ne (pe_do D_after TC.cl (hr.mono (by decide)) (pv 11) (pa_cons (pv 17) (pa_cons (pv 18) pa_nil))) (pe_use C__law_read (hr.mono (by decide)) rfl (pa_cons (pv 3) (pa_cons (pv 17) (pa_cons (pv 18) pa_nil)))) (nomark _)) (pss_one (ps_ret pe_bl)) pss_nil)
    (pss_one (ps_set (i := 17) sc_law.nd rfl (Or.inl rfl) (pe_use C__law_read (hr.mono (by decide)) rfl (pa_cons (pv 3) (pa_cons (pv 17) (pa_cons (pv 18) pa_nil))))))))
    (Evl.pss_cut (ps_if (PW.pt (pw_or (pt_cmpR op_ne (pe_do D_end2 TC.cl (hr.mono (by decide)) (pv 11) (pa_cons (pv 15) (pa_cons (pv 16) pa_nil))) (pv 17) (nomark _)) (pw_or1 (pt_cmpR op_ne (pe_doK DK_end TC.cl (hr.mono (by decide)) (pv 11) (pk_cons (pv 15) pk_nil)) (pe_use C__law_end (hr.mono (by decide)) rfl (pa_cons (pv 3) (pa_cons (pv 15) pa_nil))) (nomark _))))) (pss_one (ps_ret pe_bl)) pss_nil)
    (pss_one (ps_if (pt_cmpR op_ne (pe_do D_takes TC.cl (hr.mono (by decide)) (pv 11) (pa_cons (pv 15) pa_nil)) (pe_cmpR op_in_seq (pe_use C__law_end (hr.mono (by decide)) rfl (pa_cons (pv 3) (pa_cons (pv 15) pa_nil))) (pe_ix ix_tup (pv 3) pe_int (fun _ _ => rfl)) rfl) (nomark _)) (pss_one (ps_ret pe_bl)) pss_nil)))))))
    (Evl.pss_cut (ps_set (i := 19) sc_law.nd rfl (Or.inl rfl) (pe_and (pe_cmpR op_eq (pe_ix ix_tup (pv 3) pe_int (fun _ _ => rfl)) (pe_ix ix_tup (pv 4) pe_int (fun _ _ => rfl)) (nomark _)) (pe_and (pe_cmpR (op_eqD hr.units) (pe_callB cr_sorted (by rfl) n_sorted (by decide +kernel) (pa_cons (pe_ix ix_tup (pv 3) pe_int (fun _ _ => rfl)) pa_nil)) (pe_callB cr_sorted (by rfl) n_sorted (by decide +kernel) (pa_cons (pe_ix ix_tup (pv 4) pe_int (fun _ _ => rfl)) pa_nil)) (nomark _)) (pe_one (pe_cmpR (op_eqD hr.units) (pe_use C__law_sorted_steps (hr.mono (by decide)) rfl (pa_cons (pv 3) pa_nil)) (pe_use C__law_sorted_steps (hr.mono (by decide)) rfl (pa_cons (pv 4) pa_nil)) (nomark _))))))
    (Evl.pss_cut (ps_if (PW.pt (pw_or (pt_cmpR op_ne (pe_cmpR (op_eqOwn D_eq TC.sL (hr.mono (by decide))) (pv 11) (pv 12) (nomark _)) (pv 19) (nomark _)) (pw_or (pt_cmpR (op_eqOwn D_eq TC.sL (hr.mono (by decide))) (pv 11) (pv 9) (nomark _)) (pw_or1 (pt_not (pt_cmpR (op_eqOwn D_eq TC.sL (hr.mono (by decide))) (pv 11) (pe_new M_Wish (hr.mono (by decide)) rfl (pa_cons (pe_ix ix_tup (pv 3) pe_int (fun _ _ => rfl)) (pa_cons (pe_ix ix_tup (pv 3) pe_int (fun _ _ => rfl)) (pa_cons (pe_ix ix_tup (pv 3) pe_int (fun _ _ => rfl)) pa_nil)))) (nomark _))))))) (pss_one (ps_ret pe_bl)) pss_nil)
    (Evl.pss_cut (ps_if (PW.pt (pw_or (pt_cmpR (op_eqOwn D_eq TC.sL (hr.mono (by decide))) (pv 11) (pe_new M_Wish (hr.mono (by decide)) rfl (pa_cons (pe_op op_add (pe_ix ix_tup (pv 3) pe_int (fun _ _ => rfl)) pe_int) (pa_cons (pe_ix ix_tup (pv 3) pe_int (fun _ _ => rfl)) (pa_cons (pe_ix ix_tup (pv 3) pe_int (fun _ _ => rfl)) pa_nil)))) (nomark _)) (pw_or1 (pt_cmpR (op_eqOwn D_eq TC.sL (hr.mono (by decide))) (pv 11) (pe_new M_Wish (hr.mono (by decide)) rfl (pa_cons (pe_ix ix_tup (pv 3) pe_int (fun _ _ => rfl)) (pa_cons (pe_lc (own := [("k", 21)]) (g := gName 21) rfl sc_law.nd (pi_range1 (by rfl) n_range (pa_cons (pe_ix ix_tup (pv 3) pe_int (fun _ _ => rfl)) pa_nil)) (blkOk_by (N := ["script", "box", "rings", "told", "more", "one", "need", "bar", "later", "steps", "good", "wish", "other", "names", "tales", "tale", "state", "due", "lot", "is_like", "turn", "k"]) (sc := defScope s_law) (by decide +kernel)) (fun _ _ _ _ _ => pg_name (i := 21) sc_law.nd rfl (Or.inl rfl)) (fun _ _ _ _ _ => pts_one (pt_cmpR (r := rIn K true) op_notIn_seq (pv 21) (pe_ix (r := rIxT K) ix_tup (pv 3) pe_int (fun _ _ => rfl)) rfl)) (fun _ _ _ _ _ => pv 21)) (pa_cons (pv 9) pa_nil)))) (nomark _))))) (pss_one (ps_ret pe_bl)) pss_nil)
    (pss_one (ps_ret (pe_and (pe_use C__law_made_right (hr.mono (by decide)) rfl (pa_cons (pv 1) (pa_cons (pv 2) (pa_cons (pv 14) pa_nil)))) (pe_one (pe_use C__law_joined_right (hr.mono (by decide)) rfl (pa_cons (pv 1) (pa_cons (pv 11) (pa_cons (pv 12) (pa_cons (pv 3) (pa_cons (pv 4) (pa_cons (pv 14) pa_nil))))))))))))))))))))))))))))), ?_⟩
    refine ⟨_, rfl, a0, ns, 0, rfl, by decide, hns, n63, fun bx H1 _ s1 b1 => ?_⟩
    refine ⟨_, rfl, _, rfl, bx, 3, rfl, ⟨by decide, by decide⟩, b1, fun d H2 d0 d1 k2 b2 => ⟨_, _, rfl, rfl, bx, 2 + d, rfl, ⟨by omega, by omega⟩, b2, fun rl rings H3 k3 b3 hl0 hr3 rlen nm => ?_⟩⟩
    have nr : rl ≠ bx := ne_bx b2 hl0
    refine ⟨fun σ H' => ∃ told more T T2, σ = [some (.ref a0), some (.ref bx), some (.ref rl), some told, some more, none, none, none, none, none, none, none, none, none, none, none, none, none, none, none, none, none] ∧ BoxAt H' bx ∧ H' rl = some (.lst (rings.map V.str)) ∧ Told bx K H' told T ∧ Told bx K H' more T2 ∧ TOk T ∧ TOk T2, ?_, ?_⟩
    · refine ⟨_, rfl, _, rfl, bx, rl, rings, rfl, b3, hr3, nr, ⟨by omega, by omega⟩, nm, fun told T H4 k4 b4 ht4 ok => ?_⟩
      refine ⟨_, rfl, _, rfl, bx, rl, rings, rfl, b4, k4 _ _ hr3 nr, nr, ⟨by omega, by omega⟩, nm, fun more T2 H5 k5 b5 hm5 ok2 => ?_⟩
      refine ⟨by show 2 ≤ sizeLine; decide, fun t kt => ?_⟩
      have u1 := same_new kt (.tup [told, more])
      exact ⟨t, _, rfl, SqT.of upd_same, rfl, _, _, rfl, _, _, rfl, rfl, told, more, T, T2, rfl, b5.same u1, u1 _ _ (k5 _ _ (k4 _ _ hr3 nr) nr), (ht4.kept b4 k5).same u1, hm5.same u1, ok, ok2⟩
    rintro σ H6 ⟨told, more, T, T2, rfl, b6, hr6, ht6, hm6, ok, ok2⟩
    obtain ⟨ta, tg, tst, tits, rfl, tq, tg1, ntg, tst1, ntst, tal⟩ := id ht6
    obtain ⟨ma, mg', mst, mits, rfl, mq, mg1, nmg, mst1, nmst, mal⟩ := id hm6
    have i4 : tits.length ≤ 4 := by rw [tal.len]; exact ok.s4
    -- steps
    refine ⟨fun σ H' => ∃ D its o10 o11 o12 o13 o14 o15 o16 o17 o18 o19 o20 o21 o5 o6 o7 o8, σ = [some (.ref a0), some (.ref bx), some (.ref rl), some (.ref ta), some (.ref ma), o5, o6, o7, o8, some (.ref D), o10, o11, o12, o13, o14, o15, o16, o17, o18, o19, o20, o21] ∧ Same H6 H' ∧ H6 D = none ∧ H' D = some (.lst its) ∧ All2 (StM H6 D H') its (T.steps.map dbl), ?_, ?_⟩
    · refine ⟨_, rfl, ta, _, _, .ref tst, rfl, rfl, tq, rfl, tst, _, rfl, SqX.lst tst1, fun J S Wk s0 D hD => ?_⟩
      refine lc_go Wk (fun i H' => Same H6 H' ∧ ∃ ys, H' D = some (.lst ys) ∧ ys.length ≤ i ∧ All2 (StM H6 D H') ys ((T.steps.map dbl).take i)) ⟨same_new hD _, [], upd_same, Nat.le_refl _, .nil⟩ (fun i H' p => Wk.keep (fun o e => p.1 _ _ e) s0) (fun i v H7 ev p => ?_) (fun H7 p => ?_)
      · obtain ⟨s7, ys, ey, ly, aly⟩ := p
        obtain ⟨d, ed, hd⟩ := tal.get ev
        have o := ok.sok d (at_mem ed)
        have l1 := ok.ln d (at_mem ed)
        have l2 := ok.lb d (at_mem ed)
        obtain ⟨ya, _, _, rfl, h0, ⟨na, rfl, h1, m1⟩, ra, rfl, h2, m2⟩ := hd.same s7
        refine ⟨ya, _, rfl, h0, rfl, _, _, rfl, _, _, rfl, _, _, rfl, _, _, rfl, rfl, rfl, ?_⟩
        refine ⟨_, rfl, _, rfl, _, rfl, na, _, rfl, SqL.of h1, fun p1 hp1 => ?_⟩
        have t1 := same_new hp1 (.lst (d.need.map V.str).reverse)
        refine ⟨na, p1, _, _, rfl, rfl, t1 _ _ h1, upd_same, by rw [List.length_reverse, List.length_map, sizeLine_eq]; omega, fun p2 hp2 => ?_⟩
        have t2 := same_new hp2 (.lst (d.need.map V.str ++ (d.need.map V.str).reverse))
        have e2 : upd (upd H7 p1 (.lst (d.need.map V.str).reverse)) p2 (.lst (d.need.map V.str ++ (d.need.map V.str).reverse)) p2 = some (.lst ((dbl d).need.map V.str)) := by
          rw [upd_same]; unfold dbl; rw [List.map_append, List.map_reverse]
        have s78 : Same H7 (upd (upd H7 p1 (.lst (d.need.map V.str).reverse)) p2 (.lst (d.need.map V.str ++ (d.need.map V.str).reverse))) := t1.trans t2
        have hp2' : H7 p2 = none := gone t1 hp2
        generalize upd (upd H7 p1 (.lst (d.need.map V.str).reverse)) p2 (.lst (d.need.map V.str ++ (d.need.map V.str).reverse)) = H8 at e2 s78 ⊢
        refine ⟨_, rfl, ra, _, rfl, .inl ⟨SqL.of (s78 _ _ h2), fun p3 hp3 => ?_⟩⟩
        have t3 := same_new hp3 (.tup (d.bar.map V.str))
        have e3 : upd H8 p3 (.tup (d.bar.map V.str)) p3 = some (.tup (d.bar.map V.str)) := upd_same
        generalize upd H8 p3 (.tup (d.bar.map V.str)) = H9 at t3 e3 ⊢
        refine ⟨_, rfl, by show 4 ≤ sizeLine; decide, fun p4 hp4 => ?_⟩
        have t4 := same_new hp4 (.tup [V.int d.b, .ref p2, .ref p3, .int d.e])
        have e4 : upd H9 p4 (.tup [V.int d.b, .ref p2, .ref p3, .int d.e]) p4 = some (.tup [V.int d.b, .ref p2, .ref p3, .int d.e]) := upd_same
        generalize upd H9 p4 (.tup [V.int d.b, .ref p2, .ref p3, .int d.e]) = H10 at t4 e4 ⊢
        have s710 := (s78.trans t3).trans t4
        have eD := s710 _ _ ey
        have n2D : p2 ≠ D := fun z => by rw [z, ey] at hp2'; cases hp2'
        have it : StM H6 D H10 (.ref p4) (dbl d) := ⟨p4, p2, p3, rfl, e4, t4 _ _ (t3 _ _ e2), t4 _ _ e3, gone s7 hp2', n2D⟩
        refine ⟨ys, eD, by rw [sizeLine_eq]; have := (List.getElem?_eq_some_iff.mp ev).1; omega, fun b o e => ?_, ys ++ [.ref p4], upd_same, by rw [List.length_append]; show _ + 1 ≤ _; omega, ?_⟩
        · rw [upd_ne (ne_of_none e hD)]; exact s710 _ _ (s7 _ _ e)
        · rw [List.take_add_one, List.getElem?_map, ed]
          exact ((aly.imp fun _ _ h => (h.same s710).keep eD kept_upd).app (.cons (it.keep eD kept_upd) .nil))
      · obtain ⟨s7, ys, ey, ly, aly⟩ := p
        refine ⟨D, ys, none, none, none, none, none, none, none, none, none, none, none, none, none, none, none, none, rfl, s7, hD, ey, ?_⟩
        rw [List.take_of_length_le (by rw [List.length_map, tal.len]; exact Nat.le_refl _)] at aly
        exact aly
    rintro σ H7 ⟨D, its, o10, o11, o12, o13, o14, o15, o16, o17, o18, o19, o20, o21, o5, o6, o7, o8, rfl, s7, fD, eD, al7⟩
    have itl : its.length ≤ 4 := by rw [al7.len, List.length_map]; exact ok.s4
    have tq7 := tupFix (K := K) (Fix.of s7) tq
    have mq7 := tupFix (K := K) (Fix.of s7) mq
    have tg7 := s7 _ _ tg1
    have mg7 := s7 _ _ mg1
    have tst7 := s7 _ _ tst1
    have mst7 := s7 _ _ mst1
    -- good
    refine ⟨_, rfl, ta, _, _, .ref tg, rfl, rfl, tq7, rfl, _, rfl, ta, _, _, .ref tg, rfl, rfl, tq7, rfl, ?_⟩
    refine ⟨_, rfl, tg, _, rfl, SqL.of tg7, fun g1 hg1 => ?_⟩
    rw [show cutV (T.good.map V.int) none (some 1) = (T.good.take 1).map V.int from (cut_take (n := 1)).trans List.map_take.symm]
    have t1 := same_new hg1 (.lst ((T.good.take 1).map V.int))
    refine ⟨tg, g1, _, _, rfl, rfl, t1 _ _ tg7, upd_same, by have := ok.gl; rw [List.length_map, List.length_map, List.length_take, sizeLine_eq]; omega, fun gl hgl => ?_⟩
    rw [← List.map_append]
    have t2 := same_new hgl (.lst ((T.good ++ T.good.take 1).map V.int))
    have eg : upd (upd H7 g1 (.lst ((T.good.take 1).map V.int))) gl (.lst ((T.good ++ T.good.take 1).map V.int)) gl = some (.lst ((T.good ++ T.good.take 1).map V.int)) := upd_same
    have s78 : Same H7 (upd (upd H7 g1 (.lst ((T.good.take 1).map V.int))) gl (.lst ((T.good ++ T.good.take 1).map V.int))) := t1.trans t2
    have fg7 : H7 gl = none := gone t1 hgl
    generalize upd (upd H7 g1 (.lst ((T.good.take 1).map V.int))) gl (.lst ((T.good ++ T.good.take 1).map V.int)) = H8 at eg s78 ⊢
    have od := ok_dbl ok
    have n2 := ok.n2
    have n3 := ok.n3
    have m2 := ok2.n2
    have m3 := ok2.n3
    -- wish
    refine ⟨_, rfl, _, rfl, _, rfl, ta, _, _, .int T.n, rfl, rfl, tupFix (Fix.of s78) tq7, rfl, rfl, rfl, ?_⟩
    refine fun wi dx hx hdx ne => ?_
    have s2 := ins_same (C := C_Wish) hx hdx
    refine ⟨wi, dx, T.n, gl, D, T.good ++ T.good.take 1, its, T.steps.map dbl, rfl, upd_same, by omega, sqxSame s2 (SqX.lst eg), by have := ok.gl; rw [List.length_append, List.length_take]; omega, fun g hg => ok.gok g ((List.mem_append.mp hg).elim id List.mem_of_mem_take), sqxSame s2 (SqX.lst (s78 _ _ eD)), al7.imp fun _ _ h => (h.same (s78.trans s2)).si, by have := ok.s4; rw [List.length_map]; omega, fun s hs => (od s hs).1, fun H9 kw hw => ⟨rfl, ?_⟩⟩
    have s89 : Same H8 H9 := fun b o e => kw b o (s2 b o e) (ne_of_none e hx)
    rw [← show mkT T = (⟨T.n, lotI (T.good ++ T.good.take 1), (T.steps.map dbl).map nrm⟩ : Wd) from (mkT_dbl T).symm] at hw
    have s79 := s78.trans s89
    have mq9 := tupFix (K := K) (Fix.of s79) mq7
    refine ⟨_, rfl, ma, _, _, .int T2.n, rfl, rfl, mq9, rfl, _, rfl, ma, _, _, .ref mg', rfl, rfl, mq9, rfl, mg', _, rfl, .inl ⟨SqL.of (s79 _ _ mg7), fun p1 hp1 => ?_⟩⟩
    have v1 := same_new hp1 (.tup (T2.good.map V.int))
    have ev1 : upd H9 p1 (.tup (T2.good.map V.int)) p1 = some (.tup (T2.good.map V.int)) := upd_same
    generalize upd H9 p1 (.tup (T2.good.map V.int)) = H10 at v1 ev1 ⊢
    refine ⟨_, rfl, ma, _, _, .ref mst, rfl, rfl, tupFix (Fix.of v1) mq9, rfl, mst, mits, rfl, .inl ⟨SqL.of (v1 _ _ (s79 _ _ mst7)), fun p2 hp2 => ?_⟩⟩
    have v2 := same_new hp2 (.tup mits)
    have ev2 : upd H10 p2 (.tup mits) p2 = some (.tup mits) := upd_same
    generalize upd H10 p2 (.tup mits) = H11 at v2 ev2 ⊢
    refine fun ot ox hox hodx one => ?_
    have s3 := ins_same (C := C_Wish) hox hodx
    have s711 := (s79.trans v1).trans v2
    refine ⟨ot, ox, T2.n, p1, p2, T2.good, mits, T2.steps, rfl, upd_same, by omega, sqxSame s3 (SqX.tup (v2 _ _ ev1)), by have := ok2.gl; omega, ok2.gok, sqxSame s3 (SqX.tup ev2), mal.imp fun _ _ h => (h.same ((s7.trans s711).trans s3)).si, by have := ok2.s4; omega, ok2.sok, fun H12 kw2 hu => ⟨rfl, ?_⟩⟩
    have s1112 : Same H11 H12 := fun b o e => kw2 b o (s3 b o e) (ne_of_none e hox)
    have hw12 := hw.same ((v1.trans v2).trans s1112)
    have s712 := s711.trans s1112
    have fg6 : H6 gl = none := gone s7 fg7
    have nDg : D ≠ gl := ne_of_none eD fg7
    have mu0 : Mu T.n H6 H12 D gl its ((T.good ++ T.good.take 1).map V.int) 0 H12 := ⟨s7.trans s712, Fix.refl _, s712 _ _ eD, (((s89.trans v1).trans v2).trans s1112) _ _ eg, fun v hv => by
      obtain ⟨i, hi, e⟩ := List.getElem_of_mem hv
      obtain ⟨s, es, a, nl, bt, ev, q0, q1, q2, r0, r1⟩ := al7.get (List.getElem?_eq_getElem hi)
      rw [e] at ev
      exact ⟨s, StN.same ⟨a, nl, bt, ev, q0, q1, q2, r0, r1, ne_of_none q1 fg7⟩ s712, od s (at_mem es)⟩⟩
    refine ⟨_, _, rfl, ?_⟩
    refine ⟨fun σ H' => ∃ o13 o14 o15 o16 o17 o18 o19 o20 o21 o5 o6 o7 o8, σ = [some (.ref a0), some (.ref bx), some (.ref rl), some (.ref ta), some (.ref ma), o5, o6, o7, o8, some (.ref D), some (.ref gl), some (.ref wi), some (.ref ot), o13, o14, o15, o16, o17, o18, o19, o20, o21] ∧ Mu T.n H6 H12 D gl its ((T.good ++ T.good.take 1).map V.int) 4 H', ?_, ?_⟩
    · refine ⟨_, rfl, D, its, rfl, SqX.lst mu0.eD, fun J S Wk s0 => ?_⟩
      refine for_sq Wk (fun i σ H' => (∃ o5 o6 o7 o8, σ = [some (.ref a0), some (.ref bx), some (.ref rl), some (.ref ta), some (.ref ma), o5, o6, o7, o8, some (.ref D), some (.ref gl), some (.ref wi), some (.ref ot), o13, o14, o15, o16, o17, o18, o19, o20, o21]) ∧ Mu T.n H6 H12 D gl its ((T.good ++ T.good.take 1).map V.int) i H') ⟨⟨o5, o6, o7, o8, rfl⟩, mu0⟩ (fun i σ H' p => Wk.keep (fun o e => by rw [mu0.eD] at e; rw [p.2.eD]; exact e) s0) ?_ ?_
      · rintro i σ G v ev ⟨⟨o5, o6, o7, o8, rfl⟩, m⟩
        obtain ⟨s, ⟨a, nl, bt, rfl, q0, q1, q2, r0, r1, r2⟩, so⟩ := m.it v (at_mem ev)
        have i4 : i ≤ 4 := by have := (List.getElem?_eq_some_iff.mp ev).1; omega
        refine ⟨a, _, rfl, SqT.of q0, rfl, _, _, rfl, _, _, rfl, _, _, rfl, _, _, rfl, rfl, ?_⟩
        exact ⟨_, rfl, .inl ⟨rfl, _, SqL.of q1⟩, nl, _, _, rfl, rfl, q1, by have := so.2.1; rw [List.length_map, sizeLine_eq]; omega, ⟨_, _, _, _, rfl⟩, m.step (a := a) (bt := bt) i4 q1 r0 r1 r2 so⟩
      · rintro σ G ⟨⟨o5, o6, o7, o8, rfl⟩, m⟩
        exact ⟨o13, o14, o15, o16, o17, o18, o19, o20, o21, o5, o6, o7, o8, rfl, m.le itl⟩
    rintro σ H13 ⟨o13', o14', o15', o16', o17', o18', o19', o20', o21', o5', o6', o7', o8', rfl, mu⟩
    refine ⟨_, rfl, .inl ⟨rfl, _, SqL.of mu.eg⟩, gl, _, _, rfl, rfl, mu.eg, by have := ok.gl; rw [List.length_map, List.length_append, List.length_take, sizeLine_eq]; omega, ?_⟩
    have xD : upd H13 gl (.lst ((T.good ++ T.good.take 1).map V.int ++ [.int 0])) D = some (.lst its) := by rw [upd_ne nDg]; exact mu.eD
    have xi : ∀ v ∈ its, ∃ s, StN H6 D gl (upd H13 gl (.lst ((T.good ++ T.good.take 1).map V.int ++ [.int 0]))) v s ∧ StOk T.n 4 s := fun v hv => by
      obtain ⟨s, h, so⟩ := mu.it v hv
      exact ⟨s, h.put mu.eg (.inr rfl), so⟩
    have xs6 : Same H6 (upd H13 gl (.lst ((T.good ++ T.good.take 1).map V.int ++ [.int 0]))) := fun b o e => by rw [upd_ne (ne_of_none e fg6)]; exact mu.old _ _ e
    have xf : Fix H12 (upd H13 gl (.lst ((T.good ++ T.good.take 1).map V.int ++ [.int 0]))) := mu.fix.trans (Fix.lst mu.eg)
    generalize upd H13 gl (.lst ((T.good ++ T.good.take 1).map V.int ++ [.int 0])) = H14 at xD xi xs6 xf ⊢
    refine ⟨_, rfl, .inl ⟨rfl, _, SqL.of xD⟩, by show 1 ≤ sizeLine; decide, fun e1 he1 => ⟨Nat.zero_le _, fun e2 he2 => ⟨by show 4 ≤ sizeLine; decide, fun e3 he3 => ?_⟩⟩⟩
    have y1 := same_new he1 (.lst [V.str "odd"])
    have y2 := same_new he2 (.lst [])
    have y3 := same_new he3 (.tup [V.int 0, .ref e1, .ref e2, .int 0])
    have s1415 : Same H14 (upd (upd (upd H14 e1 (.lst [V.str "odd"])) e2 (.lst [])) e3 (.tup [V.int 0, .ref e1, .ref e2, .int 0])) := (y1.trans y2).trans y3
    have eD15 := s1415 _ _ xD
    have nb1 : e1 ≠ bx := ne_bx (b6.same xs6) he1
    have nb2 : e2 ≠ bx := ne_bx ((b6.same xs6).same y1) he2
    have nDb : D ≠ bx := ne_bx b6 fD
    have nD1 : D ≠ e1 := ne_of_none xD he1
    have z1 := y3 _ _ (y2 _ _ (show upd H14 e1 (.lst [V.str "odd"]) e1 = _ from upd_same))
    have z2 := y3 _ _ (show upd (upd H14 e1 (.lst [V.str "odd"])) e2 (.lst []) e2 = _ from upd_same)
    have z3 : upd (upd (upd H14 e1 (.lst [V.str "odd"])) e2 (.lst [])) e3 (.tup [V.int 0, .ref e1, .ref e2, .int 0]) e3 = _ := upd_same
    have nD2 : D ≠ e2 := ne_of_none (y1 _ _ xD) he2
    generalize upd (upd (upd H14 e1 (.lst [V.str "odd"])) e2 (.lst [])) e3 (.tup [V.int 0, .ref e1, .ref e2, .int 0]) = H15 at s1415 eD15 z1 z2 z3 ⊢
    refine ⟨D, _, _, rfl, rfl, eD15, by rw [sizeLine_eq]; omega, ?_⟩
    obtain ⟨ss, alS, okS⟩ := all2_ex (R := SIk bx K (upd H15 D (.lst (its ++ [.ref e3])))) (q := StOk T.n 4) (l := its) fun v hv => by
      obtain ⟨s, h, so⟩ := xi v hv
      exact ⟨s, ((h.same s1415).put eD15 (.inl rfl)).sik b6, so⟩
    have okN : OkS T.n ⟨0, ["odd"], [], 0⟩ := ok_one (by omega) (nm_one nm_odd) nm_nil (by show 1 ≤ 1000; decide) (Nat.zero_le _)
    have al16 : All2 (SIk bx K (upd H15 D (.lst (its ++ [.ref e3])))) (its ++ [.ref e3]) (ss ++ [⟨0, ["odd"], [], 0⟩]) := alS.app (.cons ⟨e3, .ref e1, .ref e2, rfl, SqT.of (by rw [upd_ne (ne_of z3 eD15 (by intro z; cases z))]; exact z3), ⟨e1, rfl, .inl ⟨by rw [upd_ne nD1.symm]; exact z1, nb1⟩⟩, ⟨e2, rfl, .inl ⟨by rw [upd_ne nD2.symm]; exact z2, nb2⟩⟩⟩ .nil)
    have ok16 : ∀ s ∈ ss ++ [⟨0, ["odd"], [], 0⟩], OkS T.n s := fun s hs => (List.mem_append.mp hs).elim (fun h => (okS s h).1) fun h => by rw [List.mem_singleton.mp h]; exact okN
    have s616 : Same H6 (upd H15 D (.lst (its ++ [.ref e3]))) := fun b o e => by rw [upd_ne (ne_of_none e fD)]; exact s1415 _ _ (xs6 _ _ e)
    have f1216 : Fix H12 (upd H15 D (.lst (its ++ [.ref e3]))) := (xf.trans (Fix.of s1415)).trans (Fix.lst eD15)
    have eD16 : upd H15 D (.lst (its ++ [.ref e3])) D = some (.lst (its ++ [.ref e3])) := upd_same
    have ssl : (ss ++ [⟨0, ["odd"], [], 0⟩] : List Stp).length ≤ 1000 := by rw [← al16.len, List.length_append]; show _ + 1 ≤ _; omega
    generalize upd H15 D (.lst (its ++ [.ref e3])) = H16 at al16 s616 f1216 eD16 ⊢
    generalize its ++ [.ref e3] = its2 at al16 eD16 ⊢
    generalize ss ++ [⟨0, ["odd"], [], 0⟩] = ss2 at al16 ok16 ssl ⊢
    have hw16 : WA K C_Wish H16 (.ref wi) (mkT T) := hw12.fix f1216
    have hu16 : WA K C_Wish H16 (.ref ot) (mkT T2) := WA.fix (W := mkT T2) f1216 hu
    have b16 := b6.same s616
    have ht16 := ht6.same s616
    have hm16 := hm6.same s616
    have hr16 := s616 _ _ hr6
    refine ⟨fun σ H' => σ = [some (.ref a0), some (.ref bx), some (.ref rl), some (.ref ta), some (.ref ma), o5', o6', o7', o8', some (.ref D), some (.ref gl), some (.ref wi), some (.ref ot), o13', o14', o15', o16', o17', o18', o19', o20', o21'] ∧ Same H16 H', ?_, ?_⟩
    · obtain ⟨_, wdx, wg, wst, wits, ew, q0, q1, q2, q3⟩ := id hw16
      cases ew
      have tq16 := tupFix (K := K) (Fix.of s616) tq
      refine ⟨_, rfl, wi, C_Wish, wdx, _, _, rfl, q0, TC.cl, TC.nS, fl_states _ _ _, _, rfl, ta, _, _, .int T.n, rfl, rfl, tq16, rfl, rfl, _, rfl, ?_⟩
      have e0 : (!decide (V.int (mkT T).n = V.int T.n)) = false := by rw [decide_eq_true (show V.int (mkT T).n = V.int T.n from rfl)]; rfl
      rw [e0]
      refine iteF ⟨_, rfl, wi, C_Wish, wdx, _, _, rfl, q0, TC.cl, TC.nG, fl_good _ _ _, _, rfl, ta, _, _, .ref tg, rfl, rfl, tq16, rfl, tg, T.good, rfl, SqL.of (s616 _ _ tg1), by have := ok.gl; omega, fun ns' p pm so hp => ⟨p, _, rfl, .inl ⟨SqL.of upd_same, fun l hl => ?_⟩⟩⟩
      obtain rfl := sorted_same pm so ok.asc
      have t1 := same_new hp (.lst (T.good.map V.int))
      have t2 := same_new hl (.tup (T.good.map V.int))
      have t12 := t1.trans t2
      refine ⟨_, _, .tup (tupFix (Fix.of t12) q1) (dp_intl _), .tup (SqT.of upd_same) (dp_intl _), (sh_ints _).ok (by decide), (sh_ints _).ok (by decide), _, rfl, ?_⟩
      rw [eqv_dI, decide_eq_true (show (mkT T).good = T.good from ok.lot)]
      generalize upd (upd H16 p (.lst (T.good.map V.int))) l (.tup (T.good.map V.int)) = G1 at t12 ⊢
      refine iteF ⟨_, rfl, wi, C_Wish, wdx, _, _, rfl, t12 _ _ q0, TC.cl, TC.nT, fl_steps _ _ _, _, rfl, .ref ta, bx, T, rfl, ht16.same t12, ok, fun p its' G2 t3 e' al' => ?_⟩
      have q3' : All2 (SP K G2) wits (mkT T).steps := q3.imp fun _ _ h => h.fix (Fix.of (t12.trans t3))
      refine ⟨_, _, .tup (tupFix (Fix.of (t12.trans t3)) q2) (dp_all (f := dStp) (fun _ _ => SP.dp) q3'), .tup (SqT.of e') (dp_all (f := dStp) (fun _ _ => SP.dp) al'), (sh_tup (f := dStp) fun s hs => sh_stp (sp_nms q3' s hs)).ok (by decide), (sh_tup (f := dStp) fun s hs => sh_stp (sp_nms al' s hs)).ok (by decide), _, rfl, ?_⟩
      rw [eqv_stps, decide_eq_true (show (mkT T).steps = T.steps.map nrm from rfl)]
      exact iteF ⟨rfl, t12.trans t3⟩
    rintro σ H17 ⟨rfl, s1617⟩
    -- names
    have s617 := s616.trans s1617
    have ht17 := ht6.same s617
    have tq17 := tupFix (K := K) (Fix.of s617) tq
    have nlen : (namesOf T.steps).length ≤ 64 := Nat.le_trans (names_len fun s hs => ⟨Nat.le_trans (ok.ln s hs) (by decide), Nat.le_trans (ok.lb s hs) (by decide)⟩) (by have := ok.s4; omega)
    refine ⟨Nat.zero_le _, fun n0 hn0 => ?_⟩
    have v0 := same_new hn0 (.lst [])
    have en0 : upd H17 n0 (.lst []) n0 = some (.lst []) := upd_same
    generalize upd H17 n0 (.lst []) = H18 at v0 en0 ⊢
    refine ⟨fun σ H' => ∃ p o5 o6 o7 o8, σ = [some (.ref a0), some (.ref bx), some (.ref rl), some (.ref ta), some (.ref ma), o5, o6, o7, o8, some (.ref D), some (.ref gl), some (.ref wi), some (.ref ot), some (.ref p), o14', o15', o16', o17', o18', o19', o20', o21'] ∧ Same H18 H' ∧ H' p = some (.lst ((namesOf T.steps).map V.str)), ?_, ?_⟩
    · refine ⟨_, rfl, ta, _, _, .ref tst, rfl, rfl, tupFix (Fix.of v0) tq17, rfl, tst, tits, rfl, SqX.lst (v0 _ _ (s617 _ _ tst1)), fun J S Wk st => ?_⟩
      refine for_sq Wk (fun i σ H' => ∃ p o5 o6 o7 o8, σ = [some (.ref a0), some (.ref bx), some (.ref rl), some (.ref ta), some (.ref ma), o5, o6, o7, o8, some (.ref D), some (.ref gl), some (.ref wi), some (.ref ot), some (.ref p), o14', o15', o16', o17', o18', o19', o20', o21'] ∧ Same H18 H' ∧ H' p = some (.lst ((namesOf (T.steps.take i)).map V.str))) ⟨n0, o5', o6', o7', o8', rfl, Same.refl _, en0⟩ (fun i σ H' p => Wk.keep (fun o e => let ⟨_, _, _, _, _, _, s, _⟩ := p; s _ _ e) st) ?_ ?_
      · rintro i σ G v ev ⟨p, o5, o6, o7, o8, rfl, sg, ep⟩
        obtain ⟨d, ed, hd⟩ := tal.get ev
        obtain ⟨ya, _, _, rfl, h0, ⟨na, rfl, h1, m1⟩, ra, rfl, h2, m2⟩ := hd.same ((s617.trans v0).trans sg)
        have le1 := namesOf_le (ss := T.steps) (i := i)
        have l1 := ok.ln d (at_mem ed)
        have l2 := ok.lb d (at_mem ed)
        refine ⟨ya, _, rfl, h0, rfl, _, _, rfl, _, _, rfl, _, _, rfl, _, _, rfl, rfl, ?_⟩
        refine ⟨_, rfl, _, rfl, p, na, _, _, rfl, rfl, ep, h1, by rw [List.length_map, List.length_map, sizeLine_eq]; omega, fun p2 hp2 => ?_⟩
        have t2 := same_new hp2 (.lst ((namesOf (T.steps.take i)).map V.str ++ d.need.map V.str))
        have e2 : upd G p2 (.lst ((namesOf (T.steps.take i)).map V.str ++ d.need.map V.str)) p2 = _ := upd_same
        generalize upd G p2 (.lst ((namesOf (T.steps.take i)).map V.str ++ d.need.map V.str)) = G2 at t2 e2 ⊢
        refine ⟨_, rfl, p2, ra, _, _, rfl, rfl, e2, t2 _ _ h2, by rw [List.length_append, List.length_map, List.length_map, List.length_map, sizeLine_eq]; omega, fun p3 hp3 => ?_⟩
        refine ⟨p3, _, _, _, _, rfl, (sg.trans t2).trans (same_new hp3 _), ?_⟩
        rw [upd_same, namesOf_take ed, List.map_append, List.map_append, List.append_assoc]
      · rintro σ G ⟨p, o5, o6, o7, o8, rfl, sg, ep⟩
        refine ⟨p, o5, o6, o7, o8, rfl, sg, ?_⟩
        rw [tal.len, List.take_length] at ep
        exact ep
    rintro σ H19 ⟨np, o5, o6, o7, o8, rfl, s1819, enp⟩
    have s1619 := (s1617.trans v0).trans s1819
    have hw19 := hw16.same s1619
    -- rung
    refine ⟨fun σ H' => σ = [some (.ref a0), some (.ref bx), some (.ref rl), some (.ref ta), some (.ref ma), o5, o6, o7, o8, some (.ref D), some (.ref gl), some (.ref wi), some (.ref ot), some (.ref np), o14', o15', o16', o17', o18', o19', o20', o21'] ∧ Same H19 H', ?_, ?_⟩
    · obtain ⟨_, wdx, wg, wst, wits, ew, q0, q1, q2, q3⟩ := id hw19
      cases ew
      have nl2 : (namesOf (mkT T).steps).length ≤ 1000 := Nat.le_trans (names_len fun s hs => by
        obtain ⟨t, ht, rfl⟩ := List.mem_map.mp hs
        exact ⟨Nat.le_trans (len_lotS _) (Nat.le_trans (ok.ln t ht) (by decide)), Nat.le_trans (len_lotS _) (Nat.le_trans (ok.lb t ht) (by decide))⟩) (by
          show 16 * (T.steps.map nrm).length ≤ 1000
          rw [List.length_map]; have := ok.s4; omega)
      refine ⟨_, rfl, wi, wdx, _, rfl, q0, fl_no _ _ _ (by decide +kernel) (by decide +kernel) (by decide +kernel), .ref wi, mkT T, rfl, hw19, nl2, fun p G1 t1 e1 => ?_⟩
      refine ⟨_, rfl, rs1 (SqX.lst (t1 _ _ enp)) (by omega) fun b G2 t2 i2 => rs2 i2 (by omega) fun c G3 t3 e3 => ⟨c, _, rfl, .inl ⟨SqL.of e3, fun l hl => ?_⟩⟩⟩
      have t4 := same_new hl (.tup ((lotS (namesOf T.steps)).map V.str))
      have t24 := (t2.trans t3).trans t4
      have nn : ∀ x ∈ lotS (namesOf T.steps), IsNm x := fun x hx => by
        obtain ⟨t, ht, hx⟩ := List.mem_flatMap.mp (mem_lotS.mp hx)
        have o := ok.sok t ht
        exact (List.mem_append.mp hx).elim (o.nn x) (o.nb x)
      rw [show lotS (namesOf (mkT T).steps) = lotS (namesOf T.steps) from names_nrm T.steps] at e1
      refine ⟨_, _, .tup (SqT.of (t24 _ _ e1)) (dp_strs _), .tup (SqT.of upd_same) (dp_strs _), (sh_dS nn).ok (by decide), (sh_dS nn).ok (by decide), _, rfl, ?_⟩
      rw [show PyData.eqv (.tuple ((lotS (namesOf T.steps)).map .str)) (.tuple ((lotS (namesOf T.steps)).map .str)) = true from (eqv_dS _ _).trans (decide_eq_true rfl)]
      have q0' := (t1.trans t24) _ _ q0
      refine iteF ⟨_, rfl, wi, C_Wish, wdx, _, _, rfl, q0', TC.cl, TC.nS, fl_states _ _ _, .int T.n, .ty "bool", _, _, _, rfl, .ty "bool", .base (.int T.n), kit_ty (r := false) (by decide +kernel), false, rfl, iteF ⟨rfl, t1.trans t24⟩⟩
    rintro σ H20 ⟨rfl, s1920⟩
    have s1620 := s1619.trans s1920
    have s620 := s616.trans s1620
    have b20 := b16.same s1620
    have hr20 := s1620 _ _ hr16
    -- tales
    refine ⟨4, rfl, by decide, by decide, fun L hL => ?_⟩
    have nLb : L ≠ bx := ne_bx b20 hL
    refine lc_go (wk_range (lo := 0) (n := 4) (a := L)) (fun i H' => Kept bx H20 H' ∧ BoxAt H' bx ∧ ∃ ys tales, H' L = some (.lst ys) ∧ ys.length = i ∧ All2 (TaA K H') ys tales) ⟨Hb.Same.kept (same_new hL _), b20.same (same_new hL _), [], [], upd_same, rfl, .nil⟩ (fun _ _ _ => trivial) (fun i v G ev p => ?_) (fun H21 p => ?_)
    · obtain ⟨kg, bg, ys, tales, eL, ly, aly⟩ := p
      refine ⟨rfl, _, rfl, _, rfl, by show 1 ≤ sizeLine; decide, fun l1 h1 => ?_⟩
      have t1 := same_new h1 (.lst [V.str "other"])
      refine ⟨rl, l1, _, _, rfl, rfl, t1 _ _ (kg _ _ hr20 nr), upd_same, by rw [List.length_map, sizeLine_eq]; show _ + 1 ≤ _; omega, fun l2 h2 => ?_⟩
      have t2 := same_new h2 (.lst (rings.map V.str ++ [V.str "other"]))
      have e2 : upd (upd G l1 (.lst [V.str "other"])) l2 (.lst (rings.map V.str ++ [V.str "other"])) l2 = some (.lst ((rings ++ [("other" : Str)]).map V.str)) := by rw [upd_same, List.map_append]; rfl
      have t12 := t1.trans t2
      have n2b : l2 ≠ bx := ne_bx (bg.same t1) h2
      generalize upd (upd G l1 (.lst [V.str "other"])) l2 (.lst (rings.map V.str ++ [V.str "other"])) = G2 at e2 t12 ⊢
      refine ⟨_, rfl, bx, 7, rfl, ⟨by decide, by decide⟩, bg.same t12, fun dd G3 f0 f1 k3 b3' => ?_⟩
      refine ⟨bx, l2, rings ++ [("other" : Str)], dd, rfl, b3', k3 _ _ e2 n2b, n2b, ⟨by rw [List.length_append]; show 1 ≤ _ + 1; omega, by rw [List.length_append]; show _ + 1 ≤ 5; omega⟩, fun x hx => (List.mem_append.mp hx).elim (nm x) fun h => by rw [List.mem_singleton.mp h]; exact nm_other, ⟨f0, by omega⟩, fun p its' tale G4 k4 b4 _ e4 al4 ln4 => ?_⟩
      have k04 : Kept bx G G4 := (Hb.Same.kept t12).trans (k3.trans k4)
      have eL4 := k04 _ _ eL nLb
      have fx : Fix G (upd G4 L (.lst (ys ++ [.ref p]))) := (bg.fix k04).trans (Fix.lst eL4)
      refine ⟨ys, eL4, by rw [sizeLine_eq]; have := (List.getElem?_eq_some_iff.mp ev).1; simp at this; omega, fun b o e nb => by rw [upd_ne (ne_of_none e hL)]; exact k04 _ _ (kg _ _ e nb) nb, ?_, ys ++ [.ref p], tales ++ [tale], upd_same, by rw [List.length_append, ly]; rfl, (aly.imp fun _ _ h => h.fix fx).app (.cons (TaA.fix (Fix.lst eL4) ⟨p, its', rfl, SqT.of e4, al4, ln4⟩) .nil)⟩
      obtain ⟨gg, sg, eg', rg⟩ := b4
      exact ⟨gg, sg, by rw [upd_ne nLb.symm]; exact eg', rg⟩
    obtain ⟨k21, b21, ys, tales, eL, ly, aly⟩ := p
    refine ⟨Nat.zero_le _, fun p1 h1 => ⟨by show 1 ≤ sizeLine; decide, fun p2 h2 => ?_⟩⟩
    have t1 := same_new h1 (.tup [])
    have t2 := same_new h2 (.lst [.ref p1])
    have t12 := t1.trans t2
    refine ⟨L, p2, ys, [.ref p1], rfl, rfl, t12 _ _ eL, upd_same, by rw [ly, sizeLine_eq]; simp, fun tl htl => ?_⟩
    have t3 := same_new htl (.lst (ys ++ [.ref p1]))
    have etl : upd (upd (upd H21 p1 (.tup [])) p2 (.lst [.ref p1])) tl (.lst (ys ++ [.ref p1])) tl = some (.lst (ys ++ [.ref p1])) := upd_same
    have ep1 := t3 _ _ (t2 _ _ (show upd H21 p1 (.tup []) p1 = _ from upd_same))
    have t13 := t12.trans t3
    have ntl : tl ≠ bx := ne_bx (b21.same t12) htl
    generalize upd (upd (upd H21 p1 (.tup [])) p2 (.lst [.ref p1])) tl (.lst (ys ++ [.ref p1])) = H22 at etl ep1 t13 ⊢
    have al22 : All2 (TaA K H22) (ys ++ [.ref p1]) (tales ++ [[]]) := (aly.imp fun _ _ h => h.fix (Fix.of t13)).app (.cons ⟨p1, [], rfl, SqT.of ep1, .nil, Nat.zero_le _⟩ .nil)
    have tpos : 0 < (tales ++ [[]] : List (List (List Str))).length := by rw [List.length_append]; show 0 < _ + 1; omega
    have b22 := b21.same t13
    have k1622 : Kept bx H16 H22 := (Hb.Same.kept s1620).trans (k21.trans (Hb.Same.kept t13))
    generalize ys ++ [.ref p1] = its3 at etl al22 ⊢
    generalize tales ++ [[]] = tales3 at al22 tpos ⊢
    have hw22 := hw16.fix (b16.fix k1622)
    have hu22 := hu16.fix (b16.fix k1622)
    have ht22 := ht16.kept b16 k1622
    have hm22 := hm16.kept b16 k1622
    have hr22 := k1622 _ _ hr16 nr
    have eD22 := k1622 _ _ eD16 nDb
    have alD22 : All2 (SIk bx K H22) its2 ss2 := al16.imp fun _ _ h => h.kept b16 k1622
    have tq22 : SqT K H22 ta [.int T.n, .ref tg, .ref tst] := tupFix (b16.fix k1622) (tupFix (Fix.of s616) tq)
    have mq22 : SqT K H22 ma [.int T2.n, .ref mg', .ref mst] := tupFix (b16.fix k1622) (tupFix (Fix.of s616) mq)
    have tg22 := k1622 _ _ (s616 _ _ tg1) ntg
    have mg22 := k1622 _ _ (s616 _ _ mg1) nmg
    have tst22 := k1622 _ _ (s616 _ _ tst1) ntst
    -- the tales, one by one
    refine ⟨fun σ H' => ∃ o15 o16 o17 o18, σ = [some (.ref a0), some (.ref bx), some (.ref rl), some (.ref ta), some (.ref ma), o5, o6, o7, o8, some (.ref D), some (.ref gl), some (.ref wi), some (.ref ot), some (.ref np), some (.ref tl), o15, o16, o17, o18, o19', o20', o21'] ∧ Kept bx H22 H' ∧ BoxAt H' bx, ?_, ?_⟩
    · refine ⟨_, rfl, tl, its3, rfl, SqX.lst etl, fun J S Wk s0 => ?_⟩
      refine for_sq Wk (fun i σ H' => (∃ o15 o16 o17 o18, σ = [some (.ref a0), some (.ref bx), some (.ref rl), some (.ref ta), some (.ref ma), o5, o6, o7, o8, some (.ref D), some (.ref gl), some (.ref wi), some (.ref ot), some (.ref np), some (.ref tl), o15, o16, o17, o18, o19', o20', o21']) ∧ Kept bx H22 H' ∧ BoxAt H' bx) ⟨⟨_, _, _, _, rfl⟩, Kept.refl _ _, b22⟩ (fun i σ H' p => Wk.keep (fun o e => p.2.1 _ _ e ntl) s0) ?_ (fun σ H' p => ?_)
      · rintro i σ G v ev ⟨⟨o15, o16, o17, o18, rfl⟩, kg, bg⟩
        obtain ⟨tale, et, hv⟩ := al22.get ev
        obtain ⟨p, ys, rfl, hp0, alt0, l6⟩ := hv.fix (b22.fix kg)
        refine ⟨_, rfl, _, rfl, ta, _, _, .int T.n, rfl, rfl, tupFix (b22.fix kg) tq22, rfl, bx, T.n, rfl, ⟨by omega, by omega⟩, bg, fun dd G1 f0 f1 k1 b1 => ?_⟩
        have kG1 := kg.trans k1
        have hp : SqT K G1 p ys := tupFix (bg.fix k1) hp0
        have tx1 : All2 (TX K G1) ys tale := alt0.imp fun _ _ h => (h.fix (bg.fix k1)).tx
        have hw1 := hw22.fix (b22.fix kG1)
        have ht1 := ht22.kept b22 kG1
        have tq1 : SqT K G1 ta [.int T.n, .ref tg, .ref tst] := tupFix (b22.fix kG1) tq22
        have tg1' := kG1 _ _ tg22 ntg
        obtain ⟨_, wdx, wg, wst, wits, ew, q0, _⟩ := id hw1
        cases ew
        refine ⟨_, rfl, ?_⟩
        -- lots
        refine ⟨fun σ H' => ∃ o18, σ = [some (.ref a0), some (.ref bx), some (.ref rl), some (.ref ta), some (.ref ma), o5, o6, o7, o8, some (.ref D), some (.ref gl), some (.ref wi), some (.ref ot), some (.ref np), some (.ref tl), some (.ref p), some (.int dd), some (.int (endW T.steps dd tale)), o18, o19', o20', o21'] ∧ Same G1 H', ?_, ?_⟩
        · refine ⟨_, rfl, p, ys, rfl, .inr hp, fun J2 S2 Wk2 z0 => ?_⟩
          refine for_sq Wk2 (fun j σ H' => ∃ o18, σ = [some (.ref a0), some (.ref bx), some (.ref rl), some (.ref ta), some (.ref ma), o5, o6, o7, o8, some (.ref D), some (.ref gl), some (.ref wi), some (.ref ot), some (.ref np), some (.ref tl), some (.ref p), some (.int dd), some (.int (endW T.steps dd (tale.take j))), o18, o19', o20', o21'] ∧ Same G1 H') ⟨o18, rfl, Same.refl _⟩ (fun j σ H' p => Wk2.keep (fun o e => let ⟨_, _, s⟩ := p; s _ _ e) z0) ?_ ?_
          · rintro j σ G2 y ey ⟨o18, rfl, s2⟩
            obtain ⟨lot, el, hl⟩ := tx1.get ey
            have hl2 := hl.same s2
            refine ⟨fun σ H' => σ = [some (.ref a0), some (.ref bx), some (.ref rl), some (.ref ta), some (.ref ma), o5, o6, o7, o8, some (.ref D), some (.ref gl), some (.ref wi), some (.ref ot), some (.ref np), some (.ref tl), some (.ref p), some (.int dd), some (.int (endW T.steps dd (tale.take j))), some y, o19', o20', o21'] ∧ Same G2 H', ?_, ?_⟩
            · refine ⟨_, rfl, wi, wdx, _, rfl, s2 _ _ q0, fl_no _ _ _ (by decide +kernel) (by decide +kernel) (by decide +kernel), _, rfl, _, rfl, .ref wi, y, endW T.steps dd (tale.take j), mkT T, lot, rfl, hw1.same s2, hl2, fun G3 s3 => ?_⟩
              refine ⟨_, rfl, _, rfl, _, rfl, .ref ta, y, endW T.steps dd (tale.take j), bx, T, lot, rfl, (ht1.same s2).same s3, ok, hl2.same s3, fun G4 s4 => ⟨rfl, _, rfl, ?_⟩⟩
              rw [show aft (mkT T).steps (endW T.steps dd (tale.take j)) lot = aft T.steps (endW T.steps dd (tale.take j)) lot from aft_nrm _ _ _, decide_eq_true rfl]
              exact iteF ⟨rfl, s3.trans s4⟩
            rintro σ G3 ⟨rfl, s3⟩
            refine ⟨_, rfl, _, rfl, _, rfl, .ref ta, y, endW T.steps dd (tale.take j), bx, T, lot, rfl, (ht1.same s2).same s3, ok, hl2.same s3, fun G4 s4 => ⟨some y, ?_, (s2.trans s3).trans s4⟩⟩
            rw [List.take_add_one, el]
            show _ = [_, _, _, _, _, _, _, _, _, _, _, _, _, _, _, _, _, some (V.int (endW T.steps dd (tale.take j ++ [lot]))), _, _, _, _]
            rw [endW_snoc]; rfl
          · rintro σ G2 ⟨o18, rfl, s2⟩
            exact ⟨o18, by rw [tx1.len, List.take_length], s2⟩
        rintro σ G2 ⟨o18, rfl, s2⟩
        have hp2 := tupFix (Fix.of s2) hp
        have tx2 := tx_all s2 tx1
        have hw2 := hw1.same s2
        have ht2 := ht1.same s2
        have q02 := s2 _ _ q0
        refine ⟨fun σ H' => σ = [some (.ref a0), some (.ref bx), some (.ref rl), some (.ref ta), some (.ref ma), o5, o6, o7, o8, some (.ref D), some (.ref gl), some (.ref wi), some (.ref ot), some (.ref np), some (.ref tl), some (.ref p), some (.int dd), some (.int (endW T.steps dd tale)), o18, o19', o20', o21'] ∧ Same G2 H', ?_, ?_⟩
        · refine ⟨_, rfl, wi, wdx, _, rfl, q02, fl_no _ _ _ (by decide +kernel) (by decide +kernel) (by decide +kernel), _, rfl, _, rfl, .ref wi, p, dd, mkT T, ys, tale, rfl, hw2, .inr hp2, tx2, fun G3 s3 => ⟨_, rfl, rfl, _, rfl, ?_⟩⟩
          rw [show endW (mkT T).steps dd tale = endW T.steps dd tale from endW_nrm _ _ _, decide_eq_true rfl]
          refine iteF ⟨_, rfl, wi, wdx, _, rfl, s3 _ _ q02, fl_no _ _ _ (by decide +kernel) (by decide +kernel) (by decide +kernel), _, rfl, rfl, .ref wi, p, 0, mkT T, ys, tale, rfl, hw2.same s3, .inr (tupFix (Fix.of s3) hp2), tx_all s3 tx2, fun G4 s4 => ⟨_, rfl, _, rfl, .ref ta, p, bx, T, ys, tale, rfl, (ht2.same s3).same s4, ok, .inr (tupFix (Fix.of (s3.trans s4)) hp2), tx_all (s3.trans s4) tx2, fun G5 s5 => ⟨rfl, _, rfl, ?_⟩⟩⟩
          rw [show endW (mkT T).steps 0 tale = endW T.steps 0 tale from endW_nrm _ _ _, decide_eq_true rfl]
          exact iteF ⟨rfl, (s3.trans s4).trans s5⟩
        rintro σ G3 ⟨rfl, s3⟩
        refine ⟨_, rfl, wi, wdx, _, rfl, s3 _ _ q02, fl_no _ _ _ (by decide +kernel) (by decide +kernel) (by decide +kernel), _, rfl, .ref wi, p, mkT T, ys, tale, rfl, hw2.same s3, .inr (tupFix (Fix.of s3) hp2), tx_all s3 tx2, fun G4 s4 => ⟨_, rfl, _, rfl, .ref ta, p, bx, T, ys, tale, rfl, (ht2.same s3).same s4, ok, .inr (tupFix (Fix.of (s3.trans s4)) hp2), tx_all (s3.trans s4) tx2, fun G5 s5 => ?_⟩⟩
        have s15 := ((s2.trans s3).trans s4).trans s5
        refine ⟨_, rfl, ta, _, _, .ref tg, rfl, rfl, tupFix (Fix.of s15) tq1, rfl, in_ints (SqX.lst (s15 _ _ tg1')) ⟨rfl, _, rfl, ?_⟩⟩
        rw [show decide (endW (mkT T).steps 0 tale ∈ (mkT T).good) = decide (endW T.steps 0 tale ∈ T.good) from takes_mkT T tale, decide_eq_true rfl]
        exact iteF ⟨⟨_, _, _, _, rfl⟩, kG1.trans (Hb.Same.kept s15), b1.same s15⟩
      · obtain ⟨⟨o15, o16, o17, o18, e⟩, k, b⟩ := p
        exact ⟨o15, o16, o17, o18, e, k, b⟩
    rintro σ H23 ⟨o15, o16, o17, o18, rfl, k23, b23⟩
    have hw23 := hw22.fix (b22.fix k23)
    have hu23 := hu22.fix (b22.fix k23)
    have ht23 := ht22.kept b22 k23
    have hm23 := hm22.kept b22 k23
    have tq23 : SqT K H23 ta [.int T.n, .ref tg, .ref tst] := tupFix (b22.fix k23) tq22
    have mq23 : SqT K H23 ma [.int T2.n, .ref mg', .ref mst] := tupFix (b22.fix k23) mq22
    have tg23 := k23 _ _ tg22 ntg
    have mg23 := k23 _ _ mg22 nmg
    have tst23 := k23 _ _ tst22 ntst
    have eD23 := k23 _ _ eD22 nDb
    have alD23 : All2 (SI K H23) its2 ss2 := alD22.imp fun _ _ h => (h.kept b22 k23).si
    have etl23 := k23 _ _ etl ntl
    have al23 : All2 (TaA K H23) its3 tales3 := al22.imp fun _ _ h => h.fix (b22.fix k23)
    have hr23 := k23 _ _ hr22 nr
    have talS : All2 (SI K H23) tits T.steps := tal.imp fun _ _ h => (((h.same s616).kept b16 k1622).kept b22 k23).si
    refine ⟨fun σ H' => σ = [some (.ref a0), some (.ref bx), some (.ref rl), some (.ref ta), some (.ref ma), o5, o6, o7, o8, some (.ref D), some (.ref gl), some (.ref wi), some (.ref ot), some (.ref np), some (.ref tl), o15, o16, o17, o18, some (.bl (decide (mkT T = mkT T2))), o20', o21'] ∧ Same H23 H', ?_, ?_⟩
    · refine ⟨_, rfl, ta, _, _, .int T.n, rfl, rfl, tq23, rfl, _, rfl, ma, _, _, .int T2.n, rfl, rfl, mq23, rfl, rfl, _, rfl, ?_⟩
      rw [show decide (V.int T.n = V.int T2.n) = decide (T.n = T2.n) from decide_eq_decide.mpr (by simp)]
      by_cases c0 : T.n = T2.n
      · rw [decide_eq_true c0]
        refine iteT ⟨_, rfl, ta, _, _, .ref tg, rfl, rfl, tq23, rfl, tg, T.good, rfl, SqL.of tg23, by have := ok.gl; omega, fun ns' p pm so hp => ?_⟩
        obtain rfl := sorted_same pm so ok.asc
        have t1 := same_new hp (.lst (T.good.map V.int))
        refine ⟨_, rfl, ma, _, _, .ref mg', rfl, rfl, tupFix (Fix.of t1) mq23, rfl, mg', T2.good, rfl, SqL.of (t1 _ _ mg23), by have := ok2.gl; omega, fun ns2 p2 pm2 so2 hp2 => ?_⟩
        obtain rfl := sorted_same pm2 so2 ok2.asc
        have t2 := same_new hp2 (.lst (T2.good.map V.int))
        refine ⟨_, _, .lst (SqL.of (t2 _ _ upd_same)) (dp_intl _), .lst (SqL.of upd_same) (dp_intl _), (sh_ils _).ok (by decide), (sh_ils _).ok (by decide), _, rfl, ?_⟩
        rw [eqv_li]
        have t12 := t1.trans t2
        generalize upd (upd H23 p (.lst (T.good.map V.int))) p2 (.lst (T2.good.map V.int)) = G0 at t12 ⊢
        by_cases c1 : T.good = T2.good
        · rw [decide_eq_true c1]
          refine iteT ⟨_, rfl, .ref ta, bx, T, rfl, ht23.same t12, ok, fun p its1 G1 s1 e1 al1 => ⟨_, rfl, .ref ma, bx, T2, rfl, (hm23.same t12).same s1, ok2, fun p' its2' G2 s2 e2 al2 => ?_⟩⟩
          have al1' := al1.imp fun _ _ h => SP.fix (Fix.of s2) h
          refine ⟨_, _, .tup (SqT.of (s2 _ _ e1)) (dp_all (f := dStp) (fun _ _ => SP.dp) al1'), .tup (SqT.of e2) (dp_all (f := dStp) (fun _ _ => SP.dp) al2), (sh_tup (f := dStp) fun s hs => sh_stp (sp_nms al1' s hs)).ok (by decide), (sh_tup (f := dStp) fun s hs => sh_stp (sp_nms al2 s hs)).ok (by decide), ?_⟩
          rw [eqv_stps]
          refine ⟨?_, (t12.trans s1).trans s2⟩
          rw [show decide (mkT T = mkT T2) = decide (T.steps.map nrm = T2.steps.map nrm) from decide_eq_decide.mpr ((mkT_eq ok ok2).trans ⟨fun h => h.2.2, fun h => ⟨c0, c1, h⟩⟩)]
          rfl
        · rw [decide_eq_false c1]
          refine iteF ⟨?_, t12⟩
          rw [decide_eq_false fun h => c1 ((mkT_eq ok ok2).mp h).2.1]
          rfl
      · rw [decide_eq_false c0]
        refine iteF ⟨?_, Same.refl _⟩
        rw [decide_eq_false fun h => c0 ((mkT_eq ok ok2).mp h).1]
        rfl
    rintro σ H24 ⟨rfl, s24⟩
    have q24 := hw23.same s24
    have u24 := hu23.same s24
    obtain ⟨_, wdx, wg, wst, wits, ew, q0, _⟩ := id q24
    cases ew
    obtain ⟨_, odx, og, ost, oits, eo, r0, _⟩ := id u24
    cases eo
    refine ⟨fun σ H' => σ = [some (.ref a0), some (.ref bx), some (.ref rl), some (.ref ta), some (.ref ma), o5, o6, o7, o8, some (.ref D), some (.ref gl), some (.ref wi), some (.ref ot), some (.ref np), some (.ref tl), o15, o16, o17, o18, some (.bl (decide (mkT T = mkT T2))), o20', o21'] ∧ Same H24 H', ?_, ?_⟩
    · refine ⟨_, rfl, _, rfl, wi, wdx, _, ot, rfl, rfl, q0, .inl ⟨odx, _, r0⟩, .ref wi, .ref ot, mkT T, rfl, q24, .inl ⟨mkT T2, u24, ⟨_, rfl⟩, _, rfl, rfl, _, rfl, ?_⟩⟩
      rw [decide_eq_true rfl]
      refine iteF ⟨_, rfl, _, rfl, wi, wdx, _, D, rfl, rfl, q0, .inr ⟨_, s24 _ _ eD23⟩, .ref wi, .ref D, mkT T, rfl, q24, .inr ⟨D, _, rfl, s24 _ _ eD23, ⟨_, rfl⟩, _, rfl, iteF ?_⟩⟩
      have tq24 := tupFix (K := K) (Fix.of s24) tq23
      refine ⟨_, rfl, _, rfl, ta, _, _, .int T.n, rfl, rfl, tq24, rfl, _, rfl, ta, _, _, .ref tg, rfl, rfl, tq24, rfl, _, rfl, ta, _, _, .ref tst, rfl, rfl, tq24, rfl, fun nw nx hx hdx ne => ?_⟩
      have s2 := ins_same (C := C_Wish) hx hdx
      refine ⟨nw, nx, T.n, tg, tst, T.good, tits, T.steps, rfl, upd_same, by omega, sqxSame s2 (SqX.lst (s24 _ _ tg23)), by have := ok.gl; omega, ok.gok, sqxSame s2 (SqX.lst (s24 _ _ tst23)), talS.imp fun _ _ h => h.same (s24.trans s2), by have := ok.s4; omega, ok.sok, fun H' kw hn => ⟨rfl, ?_⟩⟩
      have sn : Same H24 H' := fun b o e => kw b o (s2 b o e) (ne_of_none e hx)
      obtain ⟨_, ndx, ng, nst, nits, en, c0, _⟩ := id hn
      cases en
      refine ⟨wi, wdx, _, nw, rfl, rfl, sn _ _ q0, .inl ⟨ndx, _, c0⟩, .ref wi, .ref nw, mkT T, rfl, q24.same sn, .inl ⟨mkT T, hn, ⟨_, rfl⟩, _, rfl, ?_⟩⟩
      rw [decide_eq_true rfl]
      exact iteF ⟨rfl, sn⟩
    rintro σ H25 ⟨rfl, s25⟩
    have s325 := s24.trans s25
    have tq25 := tupFix (K := K) (Fix.of s325) tq23
    have tg25 := s325 _ _ tg23
    have tst25 := s325 _ _ tst23
    have q25 := q24.same s25
    have q05 := s25 _ _ q0
    refine ⟨fun σ H' => σ = [some (.ref a0), some (.ref bx), some (.ref rl), some (.ref ta), some (.ref ma), o5, o6, o7, o8, some (.ref D), some (.ref gl), some (.ref wi), some (.ref ot), some (.ref np), some (.ref tl), o15, o16, o17, o18, some (.bl (decide (mkT T = mkT T2))), o20', o21'] ∧ Same H25 H', ?_, ?_⟩
    · refine ⟨_, rfl, _, rfl, ta, _, _, .int T.n, rfl, rfl, tq25, rfl, _, _, rfl, rfl, _, rfl, ta, _, _, .ref tg, rfl, rfl, tq25, rfl, _, rfl, ta, _, _, .ref tst, rfl, rfl, tq25, rfl, fun nw nx hx hdx ne => ?_⟩
      have s2 := ins_same (C := C_Wish) hx hdx
      refine ⟨nw, nx, T.n + 1, tg, tst, T.good, tits, T.steps, rfl, upd_same, by omega, sqxSame s2 (SqX.lst tg25), by have := ok.gl; omega, fun g hg => by have := ok.gok g hg; omega, sqxSame s2 (SqX.lst tst25), talS.imp fun _ _ h => h.same (s325.trans s2), by have := ok.s4; omega, fun s hs => (ok.sok s hs).up, fun H' kw hn => ⟨rfl, ?_⟩⟩
      have sn : Same H25 H' := fun b o e => kw b o (s2 b o e) (ne_of_none e hx)
      obtain ⟨_, ndx, ng, nst, nits, en, c0, _⟩ := id hn
      cases en
      refine ⟨wi, wdx, _, nw, rfl, rfl, sn _ _ q05, .inl ⟨ndx, _, c0⟩, .ref wi, .ref nw, mkT T, rfl, q25.same sn, .inl ⟨_, hn, ⟨_, rfl⟩, _, rfl, ?_⟩⟩
      rw [decide_eq_false (show ¬ mkT T = ⟨T.n + 1, lotI T.good, T.steps.map nrm⟩ from fun h => by
        have : (mkT T).n = T.n + 1 := by rw [h]
        have e : (mkT T).n = T.n := rfl
        omega)]
      have tq26 := tupFix (K := K) (Fix.of sn) tq25
      refine iteF ⟨_, rfl, _, rfl, ta, _, _, .int T.n, rfl, rfl, tq26, rfl, _, rfl, ta, _, _, .int T.n, rfl, rfl, tq26, rfl, T.n, rfl, by omega, by omega, fun Dk hDk => ?_⟩
      refine lc_mf (ds := (List.range T.n.toNat).map fun (k : Nat) => (k : Int)) (wk_range (a := Dk)) (fun i => !decide (i ∈ T.good)) (fun _ y d => y = .int d) trivial hDk (by simp) (fun i y d H'' ey ed s m => ?_) (fun H'' zs s e al => ?_)
      · obtain ⟨rfl, hi⟩ := rng_at ey
        obtain ⟨rfl, _⟩ := rng_at ed
        refine ⟨rfl, _, rfl, _, rfl, ta, _, _, .ref tg, rfl, rfl, tupFix (Fix.of s) tq26, rfl, nin_ints (SqX.lst (s _ _ (sn _ _ tg25))) ⟨_, rfl, ?_⟩⟩
        rw [show ((0 : Int) + (i : Nat)) = (i : Int) by omega]
        cases c : !decide ((i : Int) ∈ T.good) with
        | true => exact iteT ⟨_, rfl, mf_yes m hDk (fun _ _ _ _ _ h => h) ed (by simp; omega) (Same.refl _) c rfl⟩
        | false => exact iteF (mf_no m (fun _ _ _ _ _ h => h) ed (Same.refl _) c)
      have ez := al.map_eq (f := V.int) fun _ _ h => h
      rw [ez] at e
      refine ⟨_, rfl, fun nw2 nx2 hx2 hdx2 ne2 => ?_⟩
      have s3 := ins_same (C := C_Wish) hx2 hdx2
      have s26 := (s325.trans sn).trans s
      have fl : (((List.range T.n.toNat).map fun (k : Nat) => (k : Int)).filter fun i => !decide (i ∈ T.good)).length < 64 := Nat.lt_of_le_of_lt (List.length_filter_le _ _) (by simp; omega)
      refine ⟨nw2, nx2, T.n, Dk, D, ((List.range T.n.toNat).map fun (k : Nat) => (k : Int)).filter fun i => !decide (i ∈ T.good), its2, ss2, rfl, upd_same, by omega, sqxSame s3 (SqX.lst e), fl, fun g hg => ?_, sqxSame s3 (SqX.lst (s26 _ _ eD23)), alD23.imp fun _ _ h => h.same (s26.trans s3), ssl, ok16, fun G kw2 hn2 => ⟨rfl, ?_⟩⟩
      · obtain ⟨k, hk, rfl⟩ := List.mem_map.mp (List.mem_filter.mp hg).1
        have := List.mem_range.mp hk
        omega
      have sG : Same H25 G := fun b o e => kw2 b o (s3 b o (s b o (sn b o e))) (ne_of_none (s b o (sn b o e)) hx2)
      obtain ⟨_, mdx, mng, mnst, mnits, en2, c1, _⟩ := id hn2
      cases en2
      refine ⟨wi, wdx, _, nw2, rfl, rfl, sG _ _ q05, .inl ⟨mdx, _, c1⟩, .ref wi, .ref nw2, mkT T, rfl, q25.same sG, .inl ⟨_, hn2, ⟨_, rfl⟩, _, rfl, ?_⟩⟩
      rw [decide_eq_false (flip_ne ok)]
      exact iteF ⟨rfl, sG⟩
    rintro σ H26 ⟨rfl, s26⟩
    have s326 := s325.trans s26
    refine ⟨_, rfl, _, rfl, _, rfl, bx, rl, tl, rings, its3, tales3, rfl, b23.same s326, s326 _ _ hr23, nr, ⟨by omega, by omega⟩, nm, s326 _ _ etl23, ntl, al23.imp fun _ _ h => h.fix (Fix.of s326), fun H27 k27 b27 => ⟨_, rfl, ?_⟩⟩
    have b26 := b23.same s326
    have f27 := b26.fix k27
    exact iteT ⟨_, rfl, _, rfl, _, rfl, _, rfl, _, rfl, _, rfl, bx, tl, .ref bx, .ref wi, .ref ot, .ref ta, .ref ma, T, T2, its3, tales3, rfl, (hw23.same s326).fix f27, (hu23.same s326).fix f27, (ht23.same s326).kept b26 k27, (hm23.same s326).kept b26 k27, ok, ok2, k27 _ _ (s326 _ _ etl23) ntl, al23.imp fun _ _ h => h.fix ((Fix.of s326).trans f27), tpos, fun H28 _ => q H28⟩
end
end Kd

namespace Kd
open PySem PySem.Spec PyProof.Rows L2 Hb St Sq Ow En
/-- keywords of a def without defaults -/
theorem kb_no {K : PySem.W.Frag} {x qual : Str} {st : Stmt} {f : Addr} {fd : FuncData} {ps : List Str} (F : Fun K x qual st f fd) (n : Nat) (ks : List Str) (g : {α : Type} → List α → List α → List α)
    (hrel : ∀ {vs zs : List V} {us ws : List Value}, Vals vs us → Vals zs ws → Vals (g vs zs) (g us ws))
    (h : ∀ (kV doc pm : Value) (an : Option Addr) (cdv ct : Value) (us ws : List Value), us.length = n → ws.length = ks.length → bindArgs (PySem.W.fnOf x qual (defArgs st) (defBody st) (defScope st) .none kV doc pm an cdv ct) ⟨us, ks.zip ws⟩ = pure (ps.zip (g us ws))) :
    KBn K fd ps n ks (fun us ws => g us ws) (fun vs zs => g vs zs) := by
  obtain ⟨oc, od, kV, doc, pm, an, cdv, ct, osl, rfl, lk, hcd⟩ := F.ex
  exact ⟨fun s us ws X l1 l2 => .of_eq (h kV doc pm an cdv ct us ws l1 l2), fun r1 r2 => hrel r1 r2⟩
end Kd

namespace Kd
open PySem PySem.Spec PyProof.Rows L2 Hb St Sq Ow En
theorem all_mk {l : PySem.W.OpenLaw} {w : World} {K : PySem.W.Frag} {h : Heap} {mg : Str → Option Value} {fa f0 f1 f2 f3 f4 f5 f6 f7 f8 f9 f10 f11 f12 f13 f14 f15 f16 f17 f18 f19 f20 f21 f22 f23 f24 f25 f26 f27 f28 f29 f30 f31 f32 f33 f34 f35 f36 f37 f38 f39 f40 : Addr} (X : K.In h) (G : h.Ns mainGlobals mg) (hfa : mg "law" = some (.ref fa)) {C_Wish : Addr} {tkc_LETTERS : Tok} {tkd_Wish_end0 : Tok} {tkd_wish_rings0 : Tok}
    {od0 an0 od1 an1 od2 an2 od3 an3 od4 an4 od5 an5 od6 an6 od7 an7 od8 an8 od9 an9 od10 an10 od11 an11 od12 an12 od13 an13 od14 an14 od15 an15 od16 an16 od17 an17 od18 an18 od19 an19 od20 an20 od21 an21 od22 an22 od23 an23 od24 an24 od25 an25 od26 an26 od27 an27 od28 an28 od29 an29 od30 an30 od31 an31 od32 an32 od33 an33 od34 an34 od35 an35 od36 an36 od37 an37 od38 an38 od39 an39 od40 an40 : Option Addr} {sl0 sl1 sl2 sl3 sl4 sl5 sl6 sl7 sl8 sl9 sl10 sl11 sl12 sl13 sl14 sl15 sl16 sl17 sl18 sl19 sl20 sl21 sl22 sl23 sl24 sl25 sl26 sl27 sl28 sl29 sl30 sl31 sl32 sl33 sl34 sl35 sl36 sl37 sl38 sl39 sl40 : Array (Option Value)} {oc0 kV0 dc0 pm0 cd0 ct0 oc1 kV1 dc1 pm1 cd1 ct1 oc2 kV2 dc2 pm2 cd2 ct2 oc3 kV3 dc3 pm3 cd3 ct3 oc4 kV4 dc4 pm4 cd4 ct4 oc5 kV5 dc5 pm5 cd5 ct5 oc6 kV6 dc6 pm6 cd6 ct6 oc7 kV7 dc7 pm7 cd7 ct7 oc8 kV8 dc8 pm8 cd8 ct8 oc9 kV9 dc9 pm9 cd9 ct9 oc10 kV10 dc10 pm10 cd10 ct10 oc11 kV11 dc11 pm11 cd11 ct11 oc12 kV12 dc12 pm12 cd12 ct12 oc13 kV13 dc13 pm13 cd13 ct13 oc14 kV14 dc14 pm14 cd14 ct14 oc15 kV15 dc15 pm15 cd15 ct15 oc16 kV16 dc16 pm16 cd16 ct16 oc17 kV17 dc17 pm17 cd17 ct17 oc18 kV18 dc18 pm18 cd18 ct18 oc19 kV19 dc19 pm19 cd19 ct19 oc20 kV20 dc20 pm20 cd20 ct20 oc21 kV21 dc21 pm21 cd21 ct21 oc22 kV22 dc22 pm22 cd22 ct22 oc23 kV23 dc23 pm23 cd23 ct23 oc24 kV24 dc24 pm24 cd24 ct24 oc25 kV25 dc25 pm25 cd25 ct25 oc26 kV26 dc26 pm26 cd26 ct26 oc27 kV27 dc27 pm27 cd27 ct27 oc28 kV28 dc28 pm28 cd28 ct28 oc29 kV29 dc29 pm29 cd29 ct29 oc30 kV30 dc30 pm30 cd30 ct30 oc31 kV31 dc31 pm31 cd31 ct31 oc32 kV32 dc32 pm32 cd32 ct32 oc33 kV33 dc33 pm33 cd33 ct33 oc34 kV34 dc34 pm34 cd34 ct34 oc35 kV35 dc35 pm35 cd35 ct35 oc36 kV36 dc36 pm36 cd36 ct36 oc37 kV37 dc37 pm37 cd37 ct37 oc38 kV38 dc38 pm38 cd38 ct38 oc39 kV39 dc39 pm39 cd39 ct39 oc40 kV40 dc40 pm40 cd40 ct40 : Value}
    (a0 : PySem.W.nsIn K mainGlobals "_law_box" = some (some (.ref f0))) (l0 : K.lookup f0 = some ⟨oc0, od0, .func (PySem.W.fnOf "_law_box" "_law_box" (defArgs s__law_box) (defBody s__law_box) (defScope s__law_box) .none kV0 dc0 pm0 an0 cd0 ct0), sl0⟩) (c0 : PySem.W.codeIn K cd0 "_law_box" = true) (k0 : PySem.W.keepIn K (.ref f0) = true)
    (a1 : PySem.W.nsIn K mainGlobals "_law_read" = some (some (.ref f1))) (l1 : K.lookup f1 = some ⟨oc1, od1, .func (PySem.W.fnOf "_law_read" "_law_read" (defArgs s__law_read) (defBody s__law_read) (defScope s__law_read) .none kV1 dc1 pm1 an1 cd1 ct1), sl1⟩) (c1 : PySem.W.codeIn K cd1 "_law_read" = true) (k1 : PySem.W.keepIn K (.ref f1) = true)
    (a2 : PySem.W.nsIn K mainGlobals "_law_end" = some (some (.ref f2))) (l2 : K.lookup f2 = some ⟨oc2, od2, .func (PySem.W.fnOf "_law_end" "_law_end" (defArgs s__law_end) (defBody s__law_end) (defScope s__law_end) .none kV2 dc2 pm2 an2 cd2 ct2), sl2⟩) (c2 : PySem.W.codeIn K cd2 "_law_end" = true) (k2 : PySem.W.keepIn K (.ref f2) = true)
    (a3 : PySem.W.nsIn K mainGlobals "good_sides" = some (some (.ref f3))) (l3 : K.lookup f3 = some ⟨oc3, od3, .func (PySem.W.fnOf "good_sides" "good_sides" (defArgs s_good_sides) (defBody s_good_sides) (defScope s_good_sides) .none kV3 dc3 pm3 an3 cd3 ct3), sl3⟩) (c3 : PySem.W.codeIn K cd3 "good_sides" = true) (k3 : PySem.W.keepIn K (.ref f3) = true)
    (a4 : PySem.W.nsIn K mainGlobals "as_lot" = some (some (.ref f4))) (l4 : K.lookup f4 = some ⟨oc4, od4, .func (PySem.W.fnOf "as_lot" "as_lot" (defArgs s_as_lot) (defBody s_as_lot) (defScope s_as_lot) .none kV4 dc4 pm4 an4 cd4 ct4), sl4⟩) (c4 : PySem.W.codeIn K cd4 "as_lot" = true) (k4 : PySem.W.keepIn K (.ref f4) = true)
    (a5 : PySem.W.nsIn K mainGlobals "has_none" = some (some (.ref f5))) (l5 : K.lookup f5 = some ⟨oc5, od5, .func (PySem.W.fnOf "has_none" "has_none" (defArgs s_has_none) (defBody s_has_none) (defScope s_has_none) .none kV5 dc5 pm5 an5 cd5 ct5), sl5⟩) (c5 : PySem.W.codeIn K cd5 "has_none" = true) (k5 : PySem.W.keepIn K (.ref f5) = true)
    (a6 : PySem.W.nsIn K mainGlobals "has_all" = some (some (.ref f6))) (l6 : K.lookup f6 = some ⟨oc6, od6, .func (PySem.W.fnOf "has_all" "has_all" (defArgs s_has_all) (defBody s_has_all) (defScope s_has_all) .none kV6 dc6 pm6 an6 cd6 ct6), sl6⟩) (c6 : PySem.W.codeIn K cd6 "has_all" = true) (k6 : PySem.W.keepIn K (.ref f6) = true)
    (a7 : PySem.W.nsIn K mainGlobals "is_hidden" = some (some (.ref f7))) (l7 : K.lookup f7 = some ⟨oc7, od7, .func (PySem.W.fnOf "is_hidden" "is_hidden" (defArgs s_is_hidden) (defBody s_is_hidden) (defScope s_is_hidden) .none kV7 dc7 pm7 an7 cd7 ct7), sl7⟩) (c7 : PySem.W.codeIn K cd7 "is_hidden" = true) (k7 : PySem.W.keepIn K (.ref f7) = true)
    (a8 : PySem.W.nsIn K mainGlobals "moves_from" = some (some (.ref f8))) (l8 : K.lookup f8 = some ⟨oc8, od8, .func (PySem.W.fnOf "moves_from" "moves_from" (defArgs s_moves_from) (defBody s_moves_from) (defScope s_moves_from) .none kV8 dc8 pm8 an8 cd8 ct8), sl8⟩) (c8 : PySem.W.codeIn K cd8 "moves_from" = true) (k8 : PySem.W.keepIn K (.ref f8) = true)
    (a9 : PySem.W.nsIn K mainGlobals "paired_moves" = some (some (.ref f9))) (l9 : K.lookup f9 = some ⟨oc9, od9, .func (PySem.W.fnOf "paired_moves" "paired_moves" (defArgs s_paired_moves) (defBody s_paired_moves) (defScope s_paired_moves) .none kV9 dc9 pm9 an9 cd9 ct9), sl9⟩) (c9 : PySem.W.codeIn K cd9 "paired_moves" = true) (k9 : PySem.W.keepIn K (.ref f9) = true)
    (a10 : PySem.W.nsIn K mainGlobals "is_integer" = some (some (.ref f10))) (l10 : K.lookup f10 = some ⟨oc10, od10, .func (PySem.W.fnOf "is_integer" "is_integer" (defArgs s_is_integer) (defBody s_is_integer) (defScope s_is_integer) .none kV10 dc10 pm10 an10 cd10 ct10), sl10⟩) (c10 : PySem.W.codeIn K cd10 "is_integer" = true) (k10 : PySem.W.keepIn K (.ref f10) = true)
    (a11 : PySem.W.nsIn K mainGlobals "is_count" = some (some (.ref f11))) (l11 : K.lookup f11 = some ⟨oc11, od11, .func (PySem.W.fnOf "is_count" "is_count" (defArgs s_is_count) (defBody s_is_count) (defScope s_is_count) .none kV11 dc11 pm11 an11 cd11 ct11), sl11⟩) (c11 : PySem.W.codeIn K cd11 "is_count" = true) (k11 : PySem.W.keepIn K (.ref f11) = true)
    (a12 : PySem.W.nsIn K mainGlobals "is_sequence" = some (some (.ref f12))) (l12 : K.lookup f12 = some ⟨oc12, od12, .func (PySem.W.fnOf "is_sequence" "is_sequence" (defArgs s_is_sequence) (defBody s_is_sequence) (defScope s_is_sequence) .none kV12 dc12 pm12 an12 cd12 ct12), sl12⟩) (c12 : PySem.W.codeIn K cd12 "is_sequence" = true) (k12 : PySem.W.keepIn K (.ref f12) = true)
    (a13 : PySem.W.nsIn K mainGlobals "is_number" = some (some (.ref f13))) (l13 : K.lookup f13 = some ⟨oc13, od13, .func (PySem.W.fnOf "is_number" "is_number" (defArgs s_is_number) (defBody s_is_number) (defScope s_is_number) .none kV13 dc13 pm13 an13 cd13 ct13), sl13⟩) (c13 : PySem.W.codeIn K cd13 "is_number" = true) (k13 : PySem.W.keepIn K (.ref f13) = true)
    (a14 : PySem.W.nsIn K mainGlobals "is_state" = some (some (.ref f14))) (l14 : K.lookup f14 = some ⟨oc14, od14, .func (PySem.W.fnOf "is_state" "is_state" (defArgs s_is_state) (defBody s_is_state) (defScope s_is_state) .none kV14 dc14 pm14 an14 cd14 ct14), sl14⟩) (c14 : PySem.W.codeIn K cd14 "is_state" = true) (k14 : PySem.W.keepIn K (.ref f14) = true)
    (a15 : PySem.W.nsIn K mainGlobals "is_name" = some (some (.ref f15))) (l15 : K.lookup f15 = some ⟨oc15, od15, .func (PySem.W.fnOf "is_name" "is_name" (defArgs s_is_name) (defBody s_is_name) (defScope s_is_name) .none kV15 dc15 pm15 an15 cd15 ct15), sl15⟩) (c15 : PySem.W.codeIn K cd15 "is_name" = true) (k15 : PySem.W.keepIn K (.ref f15) = true)
    (a16 : PySem.W.nsIn K mainGlobals "is_name_row" = some (some (.ref f16))) (l16 : K.lookup f16 = some ⟨oc16, od16, .func (PySem.W.fnOf "is_name_row" "is_name_row" (defArgs s_is_name_row) (defBody s_is_name_row) (defScope s_is_name_row) .none kV16 dc16 pm16 an16 cd16 ct16), sl16⟩) (c16 : PySem.W.codeIn K cd16 "is_name_row" = true) (k16 : PySem.W.keepIn K (.ref f16) = true)
    (a17 : PySem.W.nsIn K mainGlobals "is_step" = some (some (.ref f17))) (l17 : K.lookup f17 = some ⟨oc17, od17, .func (PySem.W.fnOf "is_step" "is_step" (defArgs s_is_step) (defBody s_is_step) (defScope s_is_step) .none kV17 dc17 pm17 an17 cd17 ct17), sl17⟩) (c17 : PySem.W.codeIn K cd17 "is_step" = true) (k17 : PySem.W.keepIn K (.ref f17) = true)
    (a18 : PySem.W.findIn K (.ref C_Wish) "__init__" = some (some (.ref f18))) (l18 : K.lookup f18 = some ⟨oc18, od18, .func (PySem.W.fnOf "__init__" "Wish.__init__" (defArgs s_Wish___init__) (defBody s_Wish___init__) (defScope s_Wish___init__) .none kV18 dc18 pm18 an18 cd18 ct18), sl18⟩) (c18 : PySem.W.codeIn K cd18 "Wish.__init__" = true) (k18 : PySem.W.keepIn K (.ref f18) = true)
    (j18 : PySem.W.isFn K (.ref f18) = true)
    (a19 : PySem.W.nsIn K mainGlobals "paired_wish" = some (some (.ref f19))) (l19 : K.lookup f19 = some ⟨oc19, od19, .func (PySem.W.fnOf "paired_wish" "paired_wish" (defArgs s_paired_wish) (defBody s_paired_wish) (defScope s_paired_wish) .none kV19 dc19 pm19 an19 cd19 ct19), sl19⟩) (c19 : PySem.W.codeIn K cd19 "paired_wish" = true) (k19 : PySem.W.keepIn K (.ref f19) = true)
    (a20 : PySem.W.nsIn K mainGlobals "wish_both" = some (some (.ref f20))) (l20 : K.lookup f20 = some ⟨oc20, od20, .func (PySem.W.fnOf "wish_both" "wish_both" (defArgs s_wish_both) (defBody s_wish_both) (defScope s_wish_both) .none kV20 dc20 pm20 an20 cd20 ct20), sl20⟩) (c20 : PySem.W.codeIn K cd20 "wish_both" = true) (k20 : PySem.W.keepIn K (.ref f20) = true)
    (a21 : PySem.W.nsIn K mainGlobals "wish_denied" = some (some (.ref f21))) (l21 : K.lookup f21 = some ⟨oc21, od21, .func (PySem.W.fnOf "wish_denied" "wish_denied" (defArgs s_wish_denied) (defBody s_wish_denied) (defScope s_wish_denied) .none kV21 dc21 pm21 an21 cd21 ct21), sl21⟩) (c21 : PySem.W.codeIn K cd21 "wish_denied" = true) (k21 : PySem.W.keepIn K (.ref f21) = true)
    (a22 : PySem.W.nsIn K mainGlobals "wish_either" = some (some (.ref f22))) (l22 : K.lookup f22 = some ⟨oc22, od22, .func (PySem.W.fnOf "wish_either" "wish_either" (defArgs s_wish_either) (defBody s_wish_either) (defScope s_wish_either) .none kV22 dc22 pm22 an22 cd22 ct22), sl22⟩) (c22 : PySem.W.codeIn K cd22 "wish_either" = true) (k22 : PySem.W.keepIn K (.ref f22) = true)
    (a23 : PySem.W.nsIn K mainGlobals "wish_met" = some (some (.ref f23))) (l23 : K.lookup f23 = some ⟨oc23, od23, .func (PySem.W.fnOf "wish_met" "wish_met" (defArgs s_wish_met) (defBody s_wish_met) (defScope s_wish_met) .none kV23 dc23 pm23 an23 cd23 ct23), sl23⟩) (c23 : PySem.W.codeIn K cd23 "wish_met" = true) (k23 : PySem.W.keepIn K (.ref f23) = true)
    (a24 : PySem.W.findIn K (.ref C_Wish) "after" = some (some (.ref f24))) (l24 : K.lookup f24 = some ⟨oc24, od24, .func (PySem.W.fnOf "after" "Wish.after" (defArgs s_Wish_after) (defBody s_Wish_after) (defScope s_Wish_after) .none kV24 dc24 pm24 an24 cd24 ct24), sl24⟩) (c24 : PySem.W.codeIn K cd24 "Wish.after" = true) (k24 : PySem.W.keepIn K (.ref f24) = true)
    (j24 : PySem.W.isFn K (.ref f24) = true)
    {T25 : Addr} {oT25 : Obj} {nT25 : Nat} (t25 : K.lookup T25 = some oT25) (u25 : oT25.data = .seq ([.int 0 tkd_Wish_end0] : List Value).toArray nT25)
    (a25 : PySem.W.findIn K (.ref C_Wish) "end" = some (some (.ref f25))) (l25 : K.lookup f25 = some ⟨oc25, od25, .func (PySem.W.fnOf "end" "Wish.end" (defArgs s_Wish_end) (defBody s_Wish_end) (defScope s_Wish_end) (.ref T25) kV25 dc25 pm25 an25 cd25 ct25), sl25⟩) (c25 : PySem.W.codeIn K cd25 "Wish.end" = true) (k25 : PySem.W.keepIn K (.ref f25) = true)
    (j25 : PySem.W.isFn K (.ref f25) = true)
    (a26 : PySem.W.findIn K (.ref C_Wish) "takes" = some (some (.ref f26))) (l26 : K.lookup f26 = some ⟨oc26, od26, .func (PySem.W.fnOf "takes" "Wish.takes" (defArgs s_Wish_takes) (defBody s_Wish_takes) (defScope s_Wish_takes) .none kV26 dc26 pm26 an26 cd26 ct26), sl26⟩) (c26 : PySem.W.codeIn K cd26 "Wish.takes" = true) (k26 : PySem.W.keepIn K (.ref f26) = true)
    (j26 : PySem.W.isFn K (.ref f26) = true)
    (a27 : PySem.W.nsIn K mainGlobals "_law_joined_right" = some (some (.ref f27))) (l27 : K.lookup f27 = some ⟨oc27, od27, .func (PySem.W.fnOf "_law_joined_right" "_law_joined_right" (defArgs s__law_joined_right) (defBody s__law_joined_right) (defScope s__law_joined_right) .none kV27 dc27 pm27 an27 cd27 ct27), sl27⟩) (c27 : PySem.W.codeIn K cd27 "_law_joined_right" = true) (k27 : PySem.W.keepIn K (.ref f27) = true)
    (a28 : PySem.W.nsIn K mainGlobals "_law_take" = some (some (.ref f28))) (l28 : K.lookup f28 = some ⟨oc28, od28, .func (PySem.W.fnOf "_law_take" "_law_take" (defArgs s__law_take) (defBody s__law_take) (defScope s__law_take) .none kV28 dc28 pm28 an28 cd28 ct28), sl28⟩) (c28 : PySem.W.codeIn K cd28 "_law_take" = true) (k28 : PySem.W.keepIn K (.ref f28) = true)
    (a29 : PySem.W.nsIn K mainGlobals "_law_pick" = some (some (.ref f29))) (l29 : K.lookup f29 = some ⟨oc29, od29, .func (PySem.W.fnOf "_law_pick" "_law_pick" (defArgs s__law_pick) (defBody s__law_pick) (defScope s__law_pick) .none kV29 dc29 pm29 an29 cd29 ct29), sl29⟩) (c29 : PySem.W.codeIn K cd29 "_law_pick" = true) (k29 : PySem.W.keepIn K (.ref f29) = true)
    (a30 : PySem.W.nsIn K mainGlobals "_law_lots" = some (some (.ref f30))) (l30 : K.lookup f30 = some ⟨oc30, od30, .func (PySem.W.fnOf "_law_lots" "_law_lots" (defArgs s__law_lots) (defBody s__law_lots) (defScope s__law_lots) .none kV30 dc30 pm30 an30 cd30 ct30), sl30⟩) (c30 : PySem.W.codeIn K cd30 "_law_lots" = true) (k30 : PySem.W.keepIn K (.ref f30) = true)
    (a31 : PySem.W.nsIn K mainGlobals "wish_ahead" = some (some (.ref f31))) (l31 : K.lookup f31 = some ⟨oc31, od31, .func (PySem.W.fnOf "wish_ahead" "wish_ahead" (defArgs s_wish_ahead) (defBody s_wish_ahead) (defScope s_wish_ahead) .none kV31 dc31 pm31 an31 cd31 ct31), sl31⟩) (c31 : PySem.W.codeIn K cd31 "wish_ahead" = true) (k31 : PySem.W.keepIn K (.ref f31) = true)
    (a32 : PySem.W.nsIn K mainGlobals "wish_last" = some (some (.ref f32))) (l32 : K.lookup f32 = some ⟨oc32, od32, .func (PySem.W.fnOf "wish_last" "wish_last" (defArgs s_wish_last) (defBody s_wish_last) (defScope s_wish_last) .none kV32 dc32 pm32 an32 cd32 ct32), sl32⟩) (c32 : PySem.W.codeIn K cd32 "wish_last" = true) (k32 : PySem.W.keepIn K (.ref f32) = true)
    {T33 : Addr} {oT33 : Obj} {nT33 : Nat} (t33 : K.lookup T33 = some oT33) (u33 : oT33.data = .seq ([.int 1 tkd_wish_rings0] : List Value).toArray nT33)
    (a33 : PySem.W.nsIn K mainGlobals "wish_rings" = some (some (.ref f33))) (l33 : K.lookup f33 = some ⟨oc33, od33, .func (PySem.W.fnOf "wish_rings" "wish_rings" (defArgs s_wish_rings) (defBody s_wish_rings) (defScope s_wish_rings) (.ref T33) kV33 dc33 pm33 an33 cd33 ct33), sl33⟩) (c33 : PySem.W.codeIn K cd33 "wish_rings" = true) (k33 : PySem.W.keepIn K (.ref f33) = true)
    (a34 : PySem.W.nsIn K mainGlobals "_law_made_right" = some (some (.ref f34))) (l34 : K.lookup f34 = some ⟨oc34, od34, .func (PySem.W.fnOf "_law_made_right" "_law_made_right" (defArgs s__law_made_right) (defBody s__law_made_right) (defScope s__law_made_right) .none kV34 dc34 pm34 an34 cd34 ct34), sl34⟩) (c34 : PySem.W.codeIn K cd34 "_law_made_right" = true) (k34 : PySem.W.keepIn K (.ref f34) = true)
    (a35 : PySem.W.nsIn K mainGlobals "_law_names" = some (some (.ref f35))) (l35 : K.lookup f35 = some ⟨oc35, od35, .func (PySem.W.fnOf "_law_names" "_law_names" (defArgs s__law_names) (defBody s__law_names) (defScope s__law_names) .none kV35 dc35 pm35 an35 cd35 ct35), sl35⟩) (c35 : PySem.W.codeIn K cd35 "_law_names" = true) (k35 : PySem.W.keepIn K (.ref f35) = true)
    (a36 : PySem.W.nsIn K mainGlobals "_law_sorted_steps" = some (some (.ref f36))) (l36 : K.lookup f36 = some ⟨oc36, od36, .func (PySem.W.fnOf "_law_sorted_steps" "_law_sorted_steps" (defArgs s__law_sorted_steps) (defBody s__law_sorted_steps) (defScope s__law_sorted_steps) .none kV36 dc36 pm36 an36 cd36 ct36), sl36⟩) (c36 : PySem.W.codeIn K cd36 "_law_sorted_steps" = true) (k36 : PySem.W.keepIn K (.ref f36) = true)
    (a37 : PySem.W.nsIn K mainGlobals "_law_wish" = some (some (.ref f37))) (l37 : K.lookup f37 = some ⟨oc37, od37, .func (PySem.W.fnOf "_law_wish" "_law_wish" (defArgs s__law_wish) (defBody s__law_wish) (defScope s__law_wish) .none kV37 dc37 pm37 an37 cd37 ct37), sl37⟩) (c37 : PySem.W.codeIn K cd37 "_law_wish" = true) (k37 : PySem.W.keepIn K (.ref f37) = true)
    (a38 : PySem.W.findIn K (.ref C_Wish) "rung_bells" = some (some (.ref f38))) (l38 : K.lookup f38 = some ⟨oc38, od38, .func (PySem.W.fnOf "rung_bells" "Wish.rung_bells" (defArgs s_Wish_rung_bells) (defBody s_Wish_rung_bells) (defScope s_Wish_rung_bells) .none kV38 dc38 pm38 an38 cd38 ct38), sl38⟩) (c38 : PySem.W.codeIn K cd38 "Wish.rung_bells" = true) (k38 : PySem.W.keepIn K (.ref f38) = true)
    (j38 : PySem.W.isFn K (.ref f38) = true)
    (a39 : PySem.W.findIn K (.ref C_Wish) "__eq__" = some (some (.ref f39))) (l39 : K.lookup f39 = some ⟨oc39, od39, .func (PySem.W.fnOf "__eq__" "Wish.__eq__" (defArgs s_Wish___eq__) (defBody s_Wish___eq__) (defScope s_Wish___eq__) .none kV39 dc39 pm39 an39 cd39 ct39), sl39⟩) (c39 : PySem.W.codeIn K cd39 "Wish.__eq__" = true) (k39 : PySem.W.keepIn K (.ref f39) = true)
    (j39 : PySem.W.isFn K (.ref f39) = true)
    (a40 : PySem.W.nsIn K mainGlobals "law" = some (some (.ref f40))) (l40 : K.lookup f40 = some ⟨oc40, od40, .func (PySem.W.fnOf "law" "law" (defArgs s_law) (defBody s_law) (defScope s_law) .none kV40 dc40 pm40 an40 cd40 ct40), sl40⟩) (c40 : PySem.W.codeIn K cd40 "law" = true) (k40 : PySem.W.keepIn K (.ref f40) = true)
    (z_abs : PySem.W.nsIn K mainGlobals "abs" = some none)
    (z_int : PySem.W.nsIn K mainGlobals "int" = some none)
    (z_len : PySem.W.nsIn K mainGlobals "len" = some none)
    (z_set : PySem.W.nsIn K mainGlobals "set" = some none)
    (z_sorted : PySem.W.nsIn K mainGlobals "sorted" = some none)
    (z_tuple : PySem.W.nsIn K mainGlobals "tuple" = some none)
    (z_all : PySem.W.nsIn K mainGlobals "all" = some none)
    (z_any : PySem.W.nsIn K mainGlobals "any" = some none)
    (z_bool : PySem.W.nsIn K mainGlobals "bool" = some none)
    (z_isinstance : PySem.W.nsIn K mainGlobals "isinstance" = some none)
    (z_list : PySem.W.nsIn K mainGlobals "list" = some none)
    (z_str : PySem.W.nsIn K mainGlobals "str" = some none)
    (z_enumerate : PySem.W.nsIn K mainGlobals "enumerate" = some none)
    (z_range : PySem.W.nsIn K mainGlobals "range" = some none)
    (g_LETTERS : PySem.W.nsIn K mainGlobals "LETTERS" = some (some (.int 8 tkc_LETTERS)))
    (aC_Wish : PySem.W.nsIn K mainGlobals "Wish" = some (some (.ref C_Wish)))
    (mk_Wish : PySem.W.makesIn K C_Wish = true)
    (kc_Wish : PySem.W.keepIn K (.ref C_Wish) = true)
    (pg : PySem.W.plainGet K C_Wish Str.empty = true)
    (hd : PySem.W.hasDictIn K C_Wish = true)
    (po : PySem.W.plainOver K C_Wish = true)
    (sa : PySem.W.findIn K (.ref C_Wish) "__setattr__" = some (some (.builtin "object.__setattr__")))
    (nS : PySem.W.findIn K (.ref C_Wish) "states" = some none)
    (nG : PySem.W.findIn K (.ref C_Wish) "good" = some none)
    (nT : PySem.W.findIn K (.ref C_Wish) "steps" = some none)
    (x1 : PySem.W.findIn K (.ref C_Wish) "__class__" = some (some (.builtin "object.__class__")))
    (x2 : PySem.W.specialIn K (.builtin "object.__class__") "__get__" = some (some (.builtin "getset_descriptor.__get__")))
    (x3 : PySem.W.takesIn K (.builtin "object.__class__") = some true)
    (x4 : PySem.W.mroIn K C_Wish (.type "object") = some true)
    (kC : PySem.W.kitOne K (.ref C_Wish) (.ref C_Wish) = some true)
    (kL : PySem.W.kitOne K (.type "list") (.ref C_Wish) = some false)
    (sL : PySem.W.subIn K (.type "list") (.ref C_Wish) = some false)
    : ∃ fd : FuncData, (∀ (s : Shared) (v : Value), BindsTo s fd ⟨[v], []⟩ [("script", v)]) ∧ ∀ base : Heap, K.In base → base.Ns mainGlobals mg → FnOk l.prog w K mg base CX0 10 fa fd ["script"] (spLaw K) := by
  have e := hfa.symm.trans (PySem.W.mg_of X G a40)
  cases e
  have F0 := fun_mk (st := s__law_box) l0 c0 k0
  have b0 := F0.binds (ps := ["script", "k"]) fun _ _ _ _ _ _ us hl => match us, hl with | [_, _], _ => rfl
  have F1 := fun_mk (st := s__law_read) l1 c1 k1
  have b1 := F1.binds (ps := ["wish", "state", "lot"]) fun _ _ _ _ _ _ us hl => match us, hl with | [_, _, _], _ => rfl
  have F2 := fun_mk (st := s__law_end) l2 c2 k2
  have b2 := F2.binds (ps := ["wish", "tale"]) fun _ _ _ _ _ _ us hl => match us, hl with | [_, _], _ => rfl
  have F3 := fun_mk (st := s_good_sides) l3 c3 k3
  have b3 := F3.binds (ps := ["one", "other", "pair"]) fun _ _ _ _ _ _ us hl => match us, hl with | [_, _, _], _ => rfl
  have F4 := fun_mk (st := s_as_lot) l4 c4 k4
  have b4 := F4.binds (ps := ["values"]) fun _ _ _ _ _ _ us hl => match us, hl with | [_], _ => rfl
  have F5 := fun_mk (st := s_has_none) l5 c5 k5
  have b5 := F5.binds (ps := ["names", "some"]) fun _ _ _ _ _ _ us hl => match us, hl with | [_, _], _ => rfl
  have F6 := fun_mk (st := s_has_all) l6 c6 k6
  have b6 := F6.binds (ps := ["names", "some"]) fun _ _ _ _ _ _ us hl => match us, hl with | [_, _], _ => rfl
  have F7 := fun_mk (st := s_is_hidden) l7 c7 k7
  have b7 := F7.binds (ps := ["move", "moves"]) fun _ _ _ _ _ _ us hl => match us, hl with | [_, _], _ => rfl
  have F8 := fun_mk (st := s_moves_from) l8 c8 k8
  have b8 := F8.binds (ps := ["wish", "state"]) fun _ _ _ _ _ _ us hl => match us, hl with | [_, _], _ => rfl
  have F9 := fun_mk (st := s_paired_moves) l9 c9 k9
  have b9 := F9.binds (ps := ["one", "other", "pair"]) fun _ _ _ _ _ _ us hl => match us, hl with | [_, _, _], _ => rfl
  have F10 := fun_mk (st := s_is_integer) l10 c10 k10
  have b10 := F10.binds (ps := ["value"]) fun _ _ _ _ _ _ us hl => match us, hl with | [_], _ => rfl
  have F11 := fun_mk (st := s_is_count) l11 c11 k11
  have b11 := F11.binds (ps := ["value"]) fun _ _ _ _ _ _ us hl => match us, hl with | [_], _ => rfl
  have F12 := fun_mk (st := s_is_sequence) l12 c12 k12
  have b12 := F12.binds (ps := ["value"]) fun _ _ _ _ _ _ us hl => match us, hl with | [_], _ => rfl
  have F13 := fun_mk (st := s_is_number) l13 c13 k13
  have b13 := F13.binds (ps := ["value"]) fun _ _ _ _ _ _ us hl => match us, hl with | [_], _ => rfl
  have F14 := fun_mk (st := s_is_state) l14 c14 k14
  have b14 := F14.binds (ps := ["value", "states"]) fun _ _ _ _ _ _ us hl => match us, hl with | [_, _], _ => rfl
  have F15 := fun_mk (st := s_is_name) l15 c15 k15
  have b15 := F15.binds (ps := ["value"]) fun _ _ _ _ _ _ us hl => match us, hl with | [_], _ => rfl
  have F16 := fun_mk (st := s_is_name_row) l16 c16 k16
  have b16 := F16.binds (ps := ["value"]) fun _ _ _ _ _ _ us hl => match us, hl with | [_], _ => rfl
  have F17 := fun_mk (st := s_is_step) l17 c17 k17
  have b17 := F17.binds (ps := ["value", "states"]) fun _ _ _ _ _ _ us hl => match us, hl with | [_, _], _ => rfl
  have F18 := fun_mk (st := s_Wish___init__) l18 c18 k18
  have b18 := F18.binds (ps := ["self", "states", "good", "steps"]) fun _ _ _ _ _ _ us hl => match us, hl with | [_, _, _, _], _ => rfl
  have F19 := fun_mk (st := s_paired_wish) l19 c19 k19
  have b19 := F19.binds (ps := ["one", "other", "fewest"]) fun _ _ _ _ _ _ us hl => match us, hl with | [_, _, _], _ => rfl
  have F20 := fun_mk (st := s_wish_both) l20 c20 k20
  have b20 := F20.binds (ps := ["one", "other"]) fun _ _ _ _ _ _ us hl => match us, hl with | [_, _], _ => rfl
  have F21 := fun_mk (st := s_wish_denied) l21 c21 k21
  have b21 := F21.binds (ps := ["wish"]) fun _ _ _ _ _ _ us hl => match us, hl with | [_], _ => rfl
  have F22 := fun_mk (st := s_wish_either) l22 c22 k22
  have b22 := F22.binds (ps := ["one", "other"]) fun _ _ _ _ _ _ us hl => match us, hl with | [_, _], _ => rfl
  have F23 := fun_mk (st := s_wish_met) l23 c23 k23
  have b23 := F23.binds (ps := ["wish"]) fun _ _ _ _ _ _ us hl => match us, hl with | [_], _ => rfl
  have F24 := fun_mk (st := s_Wish_after) l24 c24 k24
  have b24 := F24.binds (ps := ["self", "state", "lot"]) fun _ _ _ _ _ _ us hl => match us, hl with | [_, _, _], _ => rfl
  have F26 := fun_mk (st := s_Wish_takes) l26 c26 k26
  have b26 := F26.binds (ps := ["self", "tale"]) fun _ _ _ _ _ _ us hl => match us, hl with | [_, _], _ => rfl
  have F27 := fun_mk (st := s__law_joined_right) l27 c27 k27
  have b27 := F27.binds (ps := ["box", "one", "other", "told", "more", "tales"]) fun _ _ _ _ _ _ us hl => match us, hl with | [_, _, _, _, _, _], _ => rfl
  have F28 := fun_mk (st := s__law_take) l28 c28 k28
  have b28 := F28.binds (ps := ["box", "many"]) fun _ _ _ _ _ _ us hl => match us, hl with | [_, _], _ => rfl
  have F29 := fun_mk (st := s__law_pick) l29 c29 k29
  have b29 := F29.binds (ps := ["box", "some"]) fun _ _ _ _ _ _ us hl => match us, hl with | [_, _], _ => rfl
  have F30 := fun_mk (st := s__law_lots) l30 c30 k30
  have b30 := F30.binds (ps := ["box", "rings", "many"]) fun _ _ _ _ _ _ us hl => match us, hl with | [_, _, _], _ => rfl
  have F31 := fun_mk (st := s_wish_ahead) l31 c31 k31
  have b31 := F31.binds (ps := ["one", "other"]) fun _ _ _ _ _ _ us hl => match us, hl with | [_, _], _ => rfl
  have F32 := fun_mk (st := s_wish_last) l32 c32 k32
  have b32 := F32.binds (ps := ["bell"]) fun _ _ _ _ _ _ us hl => match us, hl with | [_], _ => rfl
  have F34 := fun_mk (st := s__law_made_right) l34 c34 k34
  have b34 := F34.binds (ps := ["box", "rings", "tales"]) fun _ _ _ _ _ _ us hl => match us, hl with | [_, _, _], _ => rfl
  have F35 := fun_mk (st := s__law_names) l35 c35 k35
  have b35 := F35.binds (ps := ["box", "many"]) fun _ _ _ _ _ _ us hl => match us, hl with | [_, _], _ => rfl
  have F36 := fun_mk (st := s__law_sorted_steps) l36 c36 k36
  have b36 := F36.binds (ps := ["told"]) fun _ _ _ _ _ _ us hl => match us, hl with | [_], _ => rfl
  have F37 := fun_mk (st := s__law_wish) l37 c37 k37
  have b37 := F37.binds (ps := ["box", "rings"]) fun _ _ _ _ _ _ us hl => match us, hl with | [_, _], _ => rfl
  have F38 := fun_mk (st := s_Wish_rung_bells) l38 c38 k38
  have b38 := F38.binds (ps := ["self"]) fun _ _ _ _ _ _ us hl => match us, hl with | [_], _ => rfl
  have F39 := fun_mk (st := s_Wish___eq__) l39 c39 k39
  have b39 := F39.binds (ps := ["self", "other"]) fun _ _ _ _ _ _ us hl => match us, hl with | [_, _], _ => rfl
  have F40 := fun_mk (st := s_law) l40 c40 k40
  have n_abs := PySem.W.mg_none_of X G z_abs
  have n_int := PySem.W.mg_none_of X G z_int
  have n_len := PySem.W.mg_none_of X G z_len
  have n_set := PySem.W.mg_none_of X G z_set
  have n_sorted := PySem.W.mg_none_of X G z_sorted
  have n_tuple := PySem.W.mg_none_of X G z_tuple
  have n_all := PySem.W.mg_none_of X G z_all
  have n_any := PySem.W.mg_none_of X G z_any
  have n_bool := PySem.W.mg_none_of X G z_bool
  have n_isinstance := PySem.W.mg_none_of X G z_isinstance
  have n_list := PySem.W.mg_none_of X G z_list
  have n_str := PySem.W.mg_none_of X G z_str
  have n_enumerate := PySem.W.mg_none_of X G z_enumerate
  have n_range := PySem.W.mg_none_of X G z_range
  refine ⟨PySem.W.fnOf "law" "law" (defArgs s_law) (defBody s_law) (defScope s_law) .none kV40 dc40 pm40 an40 cd40 ct40, fun s v => .of_eq rfl, fun base _ _ => ?_⟩
  have gg_Wish := PySem.W.mg_of X G aC_Wish
  have TC : Txt K mg C_Wish := ⟨⟨pg, hd, po, sa⟩, nS, nG, nT, PySem.W.mg_of X G aC_Wish, x1, x2, x3, x4, kC, kL, sL⟩
  have gg_LETTERS := PySem.W.mg_of X G g_LETTERS
  have G__law_box := ok_box (P := l.prog) (w := w) (mg := mg) (base := base) F0 n_abs n_int n_len
  have G__law_read := ok_read (P := l.prog) (w := w) (mg := mg) (base := base) F1
  have C__law_read_0 : Cl l.prog w K mg base "_law_read" ["wish", "state", "lot"] [] 1 (spRead K) := ⟨_, _, [], G__law_read, PySem.W.mg_of X G a1, k1, b1, .nil⟩
  have G__law_end := ok_lend (P := l.prog) (w := w) (mg := mg) (base := base) F2 C__law_read_0
  have G_good_sides := ok_sides (P := l.prog) (w := w) (mg := mg) (base := base) F3 TC n_len
  have G_as_lot := ok_lot (P := l.prog) (w := w) (mg := mg) (base := base) F4 n_set n_sorted n_tuple
  have G_has_none := ok_none (P := l.prog) (w := w) (mg := mg) (base := base) F5 n_all
  have G_has_all := ok_all (P := l.prog) (w := w) (mg := mg) (base := base) F6 n_all
  have C_has_all_1 : Cl l.prog w K mg base "has_all" ["names", "some"] [] 1 (spAll K) := ⟨_, _, [], G_has_all, PySem.W.mg_of X G a6, k6, b6, .nil⟩
  have G_is_hidden := ok_hidden (P := l.prog) (w := w) (mg := mg) (base := base) F7 C_has_all_1 n_any
  have G_moves_from := ok_moves (P := l.prog) (w := w) (mg := mg) (base := base) F8 TC
  have C_as_lot_2 : Cl l.prog w K mg base "as_lot" ["values"] [] 1 (spLot K) := ⟨_, _, [], G_as_lot, PySem.W.mg_of X G a4, k4, b4, .nil⟩
  have C_has_none_3 : Cl l.prog w K mg base "has_none" ["names", "some"] [] 1 (spNone K) := ⟨_, _, [], G_has_none, PySem.W.mg_of X G a5, k5, b5, .nil⟩
  have C_is_hidden_4 : Cl l.prog w K mg base "is_hidden" ["move", "moves"] [] 2 (spHidden K) := ⟨_, _, [], G_is_hidden, PySem.W.mg_of X G a7, k7, b7, .nil⟩
  have C_moves_from_5 : Cl l.prog w K mg base "moves_from" ["wish", "state"] [] 1 (spMoves K C_Wish) := ⟨_, _, [], G_moves_from, PySem.W.mg_of X G a8, k8, b8, .nil⟩
  have G_paired_moves := ok_pmoves (P := l.prog) (w := w) (mg := mg) (base := base) F9 C_as_lot_2 C_has_none_3 C_is_hidden_4 C_moves_from_5
  have G_is_integer := ok_isInt (P := l.prog) (w := w) (mg := mg) (base := base) F10 n_bool n_int n_isinstance
  have C_is_integer_6 : Cl l.prog w K mg base "is_integer" ["value"] [] 1 spIsInt := ⟨_, _, [], G_is_integer, PySem.W.mg_of X G a10, k10, b10, .nil⟩
  have G_is_count := ok_isCnt (P := l.prog) (w := w) (mg := mg) (base := base) F11 C_is_integer_6
  have G_is_sequence := ok_isSeq (P := l.prog) (w := w) (mg := mg) (base := base) F12 n_isinstance n_list n_tuple
  have G_is_number := ok_isNum (P := l.prog) (w := w) (mg := mg) (base := base) F13 C_is_integer_6
  have C_is_number_7 : Cl l.prog w K mg base "is_number" ["value"] [] 2 spIsNum := ⟨_, _, [], G_is_number, PySem.W.mg_of X G a13, k13, b13, .nil⟩
  have G_is_state := ok_isState (P := l.prog) (w := w) (mg := mg) (base := base) F14 C_is_number_7
  have G_is_name := ok_isName (P := l.prog) (w := w) (mg := mg) (base := base) F15 gg_LETTERS n_isinstance n_len n_str
  have C_is_name_8 : Cl l.prog w K mg base "is_name" ["value"] [] 1 spIsName := ⟨_, _, [], G_is_name, PySem.W.mg_of X G a15, k15, b15, .nil⟩
  have C_is_sequence_9 : Cl l.prog w K mg base "is_sequence" ["value"] [] 1 (spIsSeq K) := ⟨_, _, [], G_is_sequence, PySem.W.mg_of X G a12, k12, b12, .nil⟩
  have G_is_name_row := ok_isNameRow (P := l.prog) (w := w) (mg := mg) (base := base) F16 C_is_name_8 C_is_sequence_9 n_all
  have C_is_name_row_10 : Cl l.prog w K mg base "is_name_row" ["value"] [] 2 (spIsNameRow K) := ⟨_, _, [], G_is_name_row, PySem.W.mg_of X G a16, k16, b16, .nil⟩
  have C_is_state_11 : Cl l.prog w K mg base "is_state" ["value", "states"] [] 3 spIsState := ⟨_, _, [], G_is_state, PySem.W.mg_of X G a14, k14, b14, .nil⟩
  have G_is_step := ok_isStep (P := l.prog) (w := w) (mg := mg) (base := base) F17 C_is_name_row_10 C_is_sequence_9 C_is_state_11 n_len
  have C_is_count_12 : Cl l.prog w K mg base "is_count" ["value"] [] 2 spIsCnt := ⟨_, _, [], G_is_count, PySem.W.mg_of X G a11, k11, b11, .nil⟩
  have C_is_step_13 : Cl l.prog w K mg base "is_step" ["value", "states"] [] 4 (spIsStep K) := ⟨_, _, [], G_is_step, PySem.W.mg_of X G a17, k17, b17, .nil⟩
  have G_Wish___init__ := ok_init (P := l.prog) (w := w) (mg := mg) (base := base) F18 TC C_as_lot_2 C_is_count_12 C_is_sequence_9 C_is_state_11 C_is_step_13 n_all n_enumerate n_tuple
  have C_good_sides_14 : Cl l.prog w K mg base "good_sides" ["one", "other", "pair"] [] 1 (spSides K C_Wish) := ⟨_, _, [], G_good_sides, PySem.W.mg_of X G a3, k3, b3, .nil⟩
  have C_paired_moves_15 : Cl l.prog w K mg base "paired_moves" ["one", "other", "pair"] [] 3 (spPMoves K C_Wish) := ⟨_, _, [], G_paired_moves, PySem.W.mg_of X G a9, k9, b9, .nil⟩
  have M_Wish_16 : Cm l.prog w K mg base "Wish" C_Wish ["self", "states", "good", "steps"] 5 (spInit K C_Wish) := ⟨_, _, ⟨mk_Wish, a18, j18, kc_Wish⟩, G_Wish___init__, PySem.W.mg_of X G aC_Wish, b18⟩
  have G_paired_wish := ok_pair (P := l.prog) (w := w) (mg := mg) (base := base) F19 C_good_sides_14 C_paired_moves_15 M_Wish_16 n_len
  have C_paired_wish_17 : Cl l.prog w K mg base "paired_wish" ["one", "other", "fewest"] [] 7 (spPair K C_Wish) := ⟨_, _, [], G_paired_wish, PySem.W.mg_of X G a19, k19, b19, .nil⟩
  have G_wish_both := ok_both (P := l.prog) (w := w) (mg := mg) (base := base) F20 C_paired_wish_17
  have G_wish_denied := ok_denied (P := l.prog) (w := w) (mg := mg) (base := base) F21 TC M_Wish_16 n_range
  have G_wish_either := ok_either (P := l.prog) (w := w) (mg := mg) (base := base) F22 C_paired_wish_17
  have G_wish_met := ok_met (P := l.prog) (w := w) (mg := mg) (base := base) F23 TC M_Wish_16
  have G_Wish_after := ok_after (P := l.prog) (w := w) (mg := mg) (base := base) F24 TC C_has_all_1 C_has_none_3
  have D_after_18 : Ch l.prog w K mg base C_Wish "after" ["self", "state", "lot"] [] 2 (spAfter K C_Wish) := ⟨_, _, [], ⟨a24, j24, k24⟩, G_Wish_after, b24, .nil⟩
  have FS_Wish_end : FunD K "end" "Wish.end" (defArgs s_Wish_end) (defBody s_Wish_end) (defScope s_Wish_end) [.int 0] [] _ _ := ⟨⟨_, _, _, _, _, _, _, _, _, _, rfl, l25, c25, .inr ⟨by decide, _, _, _, _, rfl, t25, u25, (.cons ⟨_, rfl⟩ .nil)⟩, .inl rfl⟩, k25⟩
  have G_Wish_end := ok_end (P := l.prog) (w := w) (mg := mg) (base := base) FS_Wish_end TC D_after_18
  obtain ⟨d_D_end1_19, v_D_end1_19, B_D_end1_19⟩ := FS_Wish_end.binds1 (ps := ["self", "tale", "state"]) 2 0 (by decide) rfl fun T kV doc pm an cdv ct us its h1 h2 => match us, its, h1, h2 with | [_, _], [_], _, _ => ⟨_, rfl, rfl⟩
  have D_end1_19 : Ch l.prog w K mg base C_Wish "end" ["self", "tale", "state"] [.int 0] 3 (spEnd K C_Wish) := ⟨_, _, _, ⟨a25, j25, k25⟩, G_Wish_end, B_D_end1_19, v_D_end1_19⟩
  have G_Wish_takes := ok_takes (P := l.prog) (w := w) (mg := mg) (base := base) F26 TC D_end1_19
  have C__law_end_20 : Cl l.prog w K mg base "_law_end" ["wish", "tale"] [] 2 (spLEnd K) := ⟨_, _, [], G__law_end, PySem.W.mg_of X G a2, k2, b2, .nil⟩
  have C_wish_both_21 : Cl l.prog w K mg base "wish_both" ["one", "other"] [] 8 (spBoth K C_Wish) := ⟨_, _, [], G_wish_both, PySem.W.mg_of X G a20, k20, b20, .nil⟩
  have C_wish_denied_22 : Cl l.prog w K mg base "wish_denied" ["wish"] [] 7 (spDenied K C_Wish) := ⟨_, _, [], G_wish_denied, PySem.W.mg_of X G a21, k21, b21, .nil⟩
  have C_wish_either_23 : Cl l.prog w K mg base "wish_either" ["one", "other"] [] 8 (spEither K C_Wish) := ⟨_, _, [], G_wish_either, PySem.W.mg_of X G a22, k22, b22, .nil⟩
  have C_wish_met_24 : Cl l.prog w K mg base "wish_met" ["wish"] [] 7 (spMet K C_Wish) := ⟨_, _, [], G_wish_met, PySem.W.mg_of X G a23, k23, b23, .nil⟩
  have D_takes_25 : Ch l.prog w K mg base C_Wish "takes" ["self", "tale"] [] 4 (spTakes K C_Wish) := ⟨_, _, [], ⟨a26, j26, k26⟩, G_Wish_takes, b26, .nil⟩
  have G__law_joined_right := ok_joined (P := l.prog) (w := w) (mg := mg) (base := base) F27 TC C__law_end_20 C_wish_both_21 C_wish_denied_22 C_wish_either_23 C_wish_met_24 D_takes_25 n_len n_range
  have G__law_take := ok_take (P := l.prog) (w := w) (mg := mg) (base := base) F28 n_int
  have C__law_take_26 : Cl l.prog w K mg base "_law_take" ["box", "many"] [] 1 spTake := ⟨_, _, [], G__law_take, PySem.W.mg_of X G a28, k28, b28, .nil⟩
  have G__law_pick := ok_pick (P := l.prog) (w := w) (mg := mg) (base := base) F29 C__law_take_26 n_len
  have C__law_pick_27 : Cl l.prog w K mg base "_law_pick" ["box", "some"] [] 2 spPick := ⟨_, _, [], G__law_pick, PySem.W.mg_of X G a29, k29, b29, .nil⟩
  have G__law_lots := ok_lots (P := l.prog) (w := w) (mg := mg) (base := base) F30 C__law_pick_27 C__law_take_26 n_range n_sorted n_tuple
  have G_wish_ahead := ok_ahead (P := l.prog) (w := w) (mg := mg) (base := base) F31 M_Wish_16
  have G_wish_last := ok_last (P := l.prog) (w := w) (mg := mg) (base := base) F32 M_Wish_16
  have FS_wish_rings : FunD K "wish_rings" "wish_rings" (defArgs s_wish_rings) (defBody s_wish_rings) (defScope s_wish_rings) [.int 1] [] _ _ := ⟨⟨_, _, _, _, _, _, _, _, _, _, rfl, l33, c33, .inr ⟨by decide, _, _, _, _, rfl, t33, u33, (.cons ⟨_, rfl⟩ .nil)⟩, .inl rfl⟩, k33⟩
  have G_wish_rings := ok_rings (P := l.prog) (w := w) (mg := mg) (base := base) FS_wish_rings C_is_count_12 M_Wish_16 n_range
  have C_wish_ahead_28 : Cl l.prog w K mg base "wish_ahead" ["one", "other"] [] 7 (spAhead K C_Wish) := ⟨_, _, [], G_wish_ahead, PySem.W.mg_of X G a31, k31, b31, .nil⟩
  have C_wish_last_29 : Cl l.prog w K mg base "wish_last" ["bell"] [] 7 (spLast K C_Wish) := ⟨_, _, [], G_wish_last, PySem.W.mg_of X G a32, k32, b32, .nil⟩
  obtain ⟨d_C_wish_rings_30, v_C_wish_rings_30, B_C_wish_rings_30⟩ := FS_wish_rings.binds1 (ps := ["bell", "times"]) 1 0 (by decide) rfl fun T kV doc pm an cdv ct us its h1 h2 => match us, its, h1, h2 with | [_], [_], _, _ => ⟨_, rfl, rfl⟩
  have C_wish_rings_30 : Cl l.prog w K mg base "wish_rings" ["bell", "times"] [.int 1] 7 (spRings K C_Wish) := ⟨_, _, _, G_wish_rings, PySem.W.mg_of X G a33, k33, B_C_wish_rings_30, v_C_wish_rings_30⟩
  obtain ⟨d_K_wish_rings_31, B_K_wish_rings_31⟩ := kb_full (ps := ["bell", "times"]) FS_wish_rings 0 ["bell", "times"] (fun _ ds zs => zs) (by decide) (fun r1 r2 r3 => r3) fun T kV doc pm an cdv ct us its ws h1 h2 h3 => match us, its, ws, h1, h2, h3 with | [], [_], [_, _], _, _, _ => ⟨_, rfl, rfl⟩
  have K_wish_rings_31 : ClK l.prog w K mg base "wish_rings" ["bell", "times"] 0 ["bell", "times"] (fun _ zs => zs) 7 (spRings K C_Wish) := ⟨_, _, _, G_wish_rings, PySem.W.mg_of X G a33, k33, B_K_wish_rings_31⟩
  have G__law_made_right := ok_made (P := l.prog) (w := w) (mg := mg) (base := base) F34 TC C__law_pick_27 C__law_take_26 C_wish_ahead_28 C_wish_last_29 C_wish_rings_30 D_takes_25 K_wish_rings_31 n_len n_range
  have G__law_names := ok_names (P := l.prog) (w := w) (mg := mg) (base := base) F35 C__law_take_26 n_range
  have G__law_sorted_steps := ok_sorted (P := l.prog) (w := w) (mg := mg) (base := base) F36 n_set n_sorted n_tuple
  have G__law_wish := ok_told (P := l.prog) (w := w) (mg := mg) (base := base) F37 C__law_pick_27 C__law_take_26 n_range
  have G_Wish_rung_bells := ok_rung (P := l.prog) (w := w) (mg := mg) (base := base) F38 TC C_as_lot_2 n_list
  have G_Wish___eq__ := ok_weq (P := l.prog) (w := w) (mg := mg) (base := base) F39 TC gg_Wish n_isinstance
  have C__law_box_32 : Cl l.prog w K mg base "_law_box" ["script", "k"] [] 1 (spBox K) := ⟨_, _, [], G__law_box, PySem.W.mg_of X G a0, k0, b0, .nil⟩
  have C__law_joined_right_33 : Cl l.prog w K mg base "_law_joined_right" ["box", "one", "other", "told", "more", "tales"] [] 9 (spJoined K C_Wish) := ⟨_, _, [], G__law_joined_right, PySem.W.mg_of X G a27, k27, b27, .nil⟩
  have C__law_lots_34 : Cl l.prog w K mg base "_law_lots" ["box", "rings", "many"] [] 3 (spLots K) := ⟨_, _, [], G__law_lots, PySem.W.mg_of X G a30, k30, b30, .nil⟩
  have C__law_made_right_35 : Cl l.prog w K mg base "_law_made_right" ["box", "rings", "tales"] [] 9 (spMade K) := ⟨_, _, [], G__law_made_right, PySem.W.mg_of X G a34, k34, b34, .nil⟩
  have C__law_names_36 : Cl l.prog w K mg base "_law_names" ["box", "many"] [] 2 spNames := ⟨_, _, [], G__law_names, PySem.W.mg_of X G a35, k35, b35, .nil⟩
  have C__law_sorted_steps_37 : Cl l.prog w K mg base "_law_sorted_steps" ["told"] [] 1 (spSorted K) := ⟨_, _, [], G__law_sorted_steps, PySem.W.mg_of X G a36, k36, b36, .nil⟩
  have C__law_wish_38 : Cl l.prog w K mg base "_law_wish" ["box", "rings"] [] 3 (spTold K) := ⟨_, _, [], G__law_wish, PySem.W.mg_of X G a37, k37, b37, .nil⟩
  obtain ⟨d_DK_end_39, B_DK_end_39⟩ := kb_full (ps := ["self", "tale", "state"]) FS_Wish_end 1 ["tale"] (fun us ds zs => us ++ zs ++ ds) (by decide) (fun r1 r2 r3 => (r1.append r3).append r2) fun T kV doc pm an cdv ct us its ws h1 h2 h3 => match us, its, ws, h1, h2, h3 with | [_], [_], [_], _, _, _ => ⟨_, rfl, rfl⟩
  have DK_end_39 : ChK l.prog w K mg base C_Wish "end" ["self", "tale", "state"] ["tale"] (fun us zs => us ++ zs ++ [.int 0]) 3 (spEnd K C_Wish) := ⟨_, _, _, ⟨a25, j25, k25⟩, G_Wish_end, B_DK_end_39⟩
  obtain ⟨d_D_end2_40, v_D_end2_40, B_D_end2_40⟩ := FS_Wish_end.binds1 (ps := ["self", "tale", "state"]) 3 1 (by decide) rfl fun T kV doc pm an cdv ct us its h1 h2 => match us, its, h1, h2 with | [_, _, _], [_], _, _ => ⟨_, rfl, rfl⟩
  have D_end2_40 : Ch l.prog w K mg base C_Wish "end" ["self", "tale", "state"] [] 3 (spEnd K C_Wish) := ⟨_, _, _, ⟨a25, j25, k25⟩, G_Wish_end, B_D_end2_40, v_D_end2_40⟩
  have D_rung_bells_41 : Ch l.prog w K mg base C_Wish "rung_bells" ["self"] [] 2 (spRung K C_Wish) := ⟨_, _, [], ⟨a38, j38, k38⟩, G_Wish_rung_bells, b38, .nil⟩
  have B_MK_Wish_42 := kb_no (ps := ["self", "states", "good", "steps"]) F18 1 ["steps", "good", "states"] (fun us zs => us ++ zs.reverse) (fun r1 r2 => r1.append r2.reverse) fun kV doc pm an cdv ct us ws h1 h2 => match us, ws, h1, h2 with | [_], [_, _, _], _, _ => rfl
  have MK_Wish_42 : CmK l.prog w K mg base "Wish" C_Wish ["self", "states", "good", "steps"] ["steps", "good", "states"] (fun us zs => us ++ zs.reverse) 5 (spInit K C_Wish) := ⟨_, _, _, ⟨mk_Wish, a18, j18, kc_Wish⟩, G_Wish___init__, PySem.W.mg_of X G aC_Wish, B_MK_Wish_42⟩
  have D_eq_43 : Ch l.prog w K mg base C_Wish "__eq__" ["self", "other"] [] 1 (spWEq K C_Wish) := ⟨_, _, [], ⟨a39, j39, k39⟩, G_Wish___eq__, b39, .nil⟩
  exact ok_law F40 TC C__law_box_32 C__law_end_20 C__law_joined_right_33 C__law_lots_34 C__law_made_right_35 C__law_names_36 C__law_read_0 C__law_sorted_steps_37 C__law_take_26 C__law_wish_38 DK_end_39 D_after_18 D_end2_40 D_rung_bells_41 D_takes_25 MK_Wish_42 D_eq_43 M_Wish_16 n_bool n_isinstance n_range n_set n_sorted n_tuple
theorem walk {l : PySem.W.OpenLaw} {q : Program} {loose : List Str} {XP : (Str → Option Value) → Heap → Prop} {YP : World → Heap → Prop} {d : DefRec} {K : Params → PySem.W.Frag} (hn : l.most = some 63) (hdf : d.params.defaults = [])
    (hY : ∀ (w : World) (h : Heap), YP w h → (K w.params).In h)
    (F : ∀ (w : World) (mg : Str → Option Value) (fa : Addr) (h : Heap), (K w.params).In h → h.Ns mainGlobals mg → mg d.name = some (.ref fa) →
      ∃ fd : FuncData, (∀ (s : Shared) (u : Value), BindsTo s fd ⟨[u], []⟩ [("script", u)]) ∧ ∀ base : Heap, (K w.params).In base → base.Ns mainGlobals mg → FnOk l.prog w (K w.params) mg base CX0 10 fa fd ["script"] (spLaw (K w.params))) :
    PySem.W.WalkO q loose XP YP l.row.toRowW d [] (fun f vs => PySem.call f vs) :=
  L2.walk_of (n := 63) (k := 10) (x := "script") (CX := fun _ => CX0) (sp := fun w => spLaw (K w.params)) hn (by decide) hdf ⟨rfl, by decide, by decide⟩ hY F (fun _ _ a ns hl _ hS => ⟨a, ns, rfl, hS, hl, fun _ => rfl⟩) fun _ _ _ _ _ z => z
end Kd
open PySem PySem.W PyProof.Rows
set_option maxRecDepth 100000 in
set_option maxHeartbeats 0 in
theorem PySem.Challenge.cw_curvebells_k50_wishes_that_read_tales_holds : PySem.Challenge.rw_curvebells_k50_wishes_that_read_tales.Holds := by
  w_on; o_law; k_head; (case hw => w_witness2)
  k_fill
  refine Kd.walk (l := PySem.Challenge.rw_curvebells_k50_wishes_that_read_tales) rfl rfl (fun w h Y => PySem.W.kIn_of Y) ?F
  case F =>
    intro w mg fa h KX G hmg
    refine' Kd.all_mk KX G hmg ?a0 ?l0 ?c0 ?k0 ?a1 ?l1 ?c1 ?k1 ?a2 ?l2 ?c2 ?k2 ?a3 ?l3 ?c3 ?k3 ?a4 ?l4 ?c4 ?k4 ?a5 ?l5 ?c5 ?k5 ?a6 ?l6 ?c6 ?k6 ?a7 ?l7 ?c7 ?k7 ?a8 ?l8 ?c8 ?k8 ?a9 ?l9 ?c9 ?k9 ?a10 ?l10 ?c10 ?k10 ?a11 ?l11 ?c11 ?k11 ?a12 ?l12 ?c12 ?k12 ?a13 ?l13 ?c13 ?k13 ?a14 ?l14 ?c14 ?k14 ?a15 ?l15 ?c15 ?k15 ?a16 ?l16 ?c16 ?k16 ?a17 ?l17 ?c17 ?k17 ?a18 ?l18 ?c18 ?k18 ?j18 ?a19 ?l19 ?c19 ?k19 ?a20 ?l20 ?c20 ?k20 ?a21 ?l21 ?c21 ?k21 ?a22 ?l22 ?c22 ?k22 ?a23 ?l23 ?c23 ?k23 ?a24 ?l24 ?c24 ?k24 ?j24 ?t25 ?u25 ?a25 ?l25 ?c25 ?k25 ?j25 ?a26 ?l26 ?c26 ?k26 ?j26 ?a27 ?l27 ?c27 ?k27 ?a28 ?l28 ?c28 ?k28 ?a29 ?l29 ?c29 ?k29 ?a30 ?l30 ?c30 ?k30 ?a31 ?l31 ?c31 ?k31 ?a32 ?l32 ?c32 ?k32 ?t33 ?u33 ?a33 ?l33 ?c33 ?k33 ?a34 ?l34 ?c34 ?k34 ?a35 ?l35 ?c35 ?k35 ?a36 ?l36 ?c36 ?k36 ?a37 ?l37 ?c37 ?k37 ?a38 ?l38 ?c38 ?k38 ?j38 ?a39 ?l39 ?c39 ?k39 ?j39 ?a40 ?l40 ?c40 ?k40 ?z_abs ?z_int ?z_len ?z_set ?z_sorted ?z_tuple ?z_all ?z_any ?z_bool ?z_isinstance ?z_list ?z_str ?z_enumerate ?z_range ?g_LETTERS ?aC_Wish ?mk_Wish ?kc_Wish ?pg ?hd ?po ?sa ?nS ?nG ?nT ?x1 ?x2 ?x3 ?x4 ?kC ?kL ?sL
    (case aC_Wish => k_is)
    (case a0 => k_is); (case l0 => k_is); (case c0 => k_is); (case k0 => k_is)
    (case a1 => k_is); (case l1 => k_is); (case c1 => k_is); (case k1 => k_is)
    (case a2 => k_is); (case l2 => k_is); (case c2 => k_is); (case k2 => k_is)
    (case a3 => k_is); (case l3 => k_is); (case c3 => k_is); (case k3 => k_is)
    (case a4 => k_is); (case l4 => k_is); (case c4 => k_is); (case k4 => k_is)
    (case a5 => k_is); (case l5 => k_is); (case c5 => k_is); (case k5 => k_is)
    (case a6 => k_is); (case l6 => k_is); (case c6 => k_is); (case k6 => k_is)
    (case a7 => k_is); (case l7 => k_is); (case c7 => k_is); (case k7 => k_is)
    (case a8 => k_is); (case l8 => k_is); (case c8 => k_is); (case k8 => k_is)
    (case a9 => k_is); (case l9 => k_is); (case c9 => k_is); (case k9 => k_is)
    (case a10 => k_is); (case l10 => k_is); (case c10 => k_is); (case k10 => k_is)
    (case a11 => k_is); (case l11 => k_is); (case c11 => k_is); (case k11 => k_is)
    (case a12 => k_is); (case l12 => k_is); (case c12 => k_is); (case k12 => k_is)
    (case a13 => k_is); (case l13 => k_is); (case c13 => k_is); (case k13 => k_is)
    (case a14 => k_is); (case l14 => k_is); (case c14 => k_is); (case k14 => k_is)
    (case a15 => k_is); (case l15 => k_is); (case c15 => k_is); (case k15 => k_is)
    (case a16 => k_is); (case l16 => k_is); (case c16 => k_is); (case k16 => k_is)
    (case a17 => k_is); (case l17 => k_is); (case c17 => k_is); (case k17 => k_is)
    (case a18 => k_is); (case l18 => k_is); (case c18 => k_is); (case k18 => k_is); (case j18 => k_is)
    (case a19 => k_is); (case l19 => k_is); (case c19 => k_is); (case k19 => k_is)
    (case a20 => k_is); (case l20 => k_is); (case c20 => k_is); (case k20 => k_is)
    (case a21 => k_is); (case l21 => k_is); (case c21 => k_is); (case k21 => k_is)
    (case a22 => k_is); (case l22 => k_is); (case c22 => k_is); (case k22 => k_is)
    (case a23 => k_is); (case l23 => k_is); (case c23 => k_is); (case k23 => k_is)
    (case a24 => k_is); (case l24 => k_is); (case c24 => k_is); (case k24 => k_is); (case j24 => k_is)
    (case a25 => k_is); (case l25 => k_is); (case c25 => k_is); (case k25 => k_is); (case t25 => k_is); (case j25 => k_is)
    (case u25 => rfl)
    (case a26 => k_is); (case l26 => k_is); (case c26 => k_is); (case k26 => k_is); (case j26 => k_is)
    (case a27 => k_is); (case l27 => k_is); (case c27 => k_is); (case k27 => k_is)
    (case a28 => k_is); (case l28 => k_is); (case c28 => k_is); (case k28 => k_is)
    (case a29 => k_is); (case l29 => k_is); (case c29 => k_is); (case k29 => k_is)
    (case a30 => k_is); (case l30 => k_is); (case c30 => k_is); (case k30 => k_is)
    (case a31 => k_is); (case l31 => k_is); (case c31 => k_is); (case k31 => k_is)
    (case a32 => k_is); (case l32 => k_is); (case c32 => k_is); (case k32 => k_is)
    (case a33 => k_is); (case l33 => k_is); (case c33 => k_is); (case k33 => k_is); (case t33 => k_is)
    (case u33 => rfl)
    (case a34 => k_is); (case l34 => k_is); (case c34 => k_is); (case k34 => k_is)
    (case a35 => k_is); (case l35 => k_is); (case c35 => k_is); (case k35 => k_is)
    (case a36 => k_is); (case l36 => k_is); (case c36 => k_is); (case k36 => k_is)
    (case a37 => k_is); (case l37 => k_is); (case c37 => k_is); (case k37 => k_is)
    (case a38 => k_is); (case l38 => k_is); (case c38 => k_is); (case k38 => k_is); (case j38 => k_is)
    (case a39 => k_is); (case l39 => k_is); (case c39 => k_is); (case k39 => k_is); (case j39 => k_is)
    (case a40 => k_is); (case l40 => k_is); (case c40 => k_is); (case k40 => k_is)
    (case z_abs => k_is); (case z_int => k_is); (case z_len => k_is); (case z_set => k_is); (case z_sorted => k_is); (case z_tuple => k_is); (case z_all => k_is); (case z_any => k_is); (case z_bool => k_is); (case z_isinstance => k_is); (case z_list => k_is); (case z_str => k_is); (case z_enumerate => k_is); (case z_range => k_is)
    (case g_LETTERS => k_is)
    (case mk_Wish => k_is)
    (case kc_Wish => k_is)
    (case pg => k_is)
    (case hd => k_is)
    (case po => k_is)
    (case sa => k_is)
    (case nS => k_is)
    (case nG => k_is)
    (case nT => k_is)
    (case x1 => k_is)
    (case x2 => k_is)
    (case x3 => k_is)
    (case x4 => k_is)
    (case kC => kit_is)
    (case kL => kit_is)
    (case sL => k_is)
