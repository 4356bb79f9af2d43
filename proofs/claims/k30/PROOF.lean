import PyProof.Rows.All
import Wide.All
import OpenK.AllK
import Wide.FinOn
import HandS.Codes
import HandS.Deep
import HandS.Defaults
import HandS.DictComp
import HandS.Evl
import HandS.ForMost
import HandS.Gcd
import HandS.IsInst
import HandS.List
import HandS.MakeKwOnly
import HandS.More
import HandS.OwnEq
import HandS.Set
import HandS.SetFor
import HandS.SetTxt0
import HandS.SortKw
import HandS.Star
import HandS.StrMore
import HandS.Strs
import HandS.TupAny
import HandS.Wide
import HandS.Zip
import KE.DatumOrd
import KE.GoesEnum
import KE.GoesMore
import KE.KDictDisplayH
import PyProof.CallFns
import PyProof.ReprLen
import PyProof.ReprReads
import PyProof.ReprRoads
import PyProof.Rows.SortShellAny
import PySem.Challenge.RW_curvebells_k30_stairs_made_tidy
set_option Elab.async false
set_option linter.all false
set_option maxRecDepth 100000
set_option maxHeartbeats 8000000
namespace Hb
open PySem PySem.Spec PyProof.Rows L2
/-! ### heaps -/
theorem same_new {H : Hp} {p : Addr} (h : H p = none) (o : HO) : Same H (upd H p o) := fun b u q => by
  rw [upd_ne (ne_of_none q h)]
  exact q
/-- a new object -/
theorem new_at {H : Hp} {p : Addr} {o : HO} {G : Hp → Prop} (h : H p = none) (k : ∀ H', Same H H' → H' p = some o → G H') : G (upd H p o) := k _ (same_new h o) upd_same
/-- a new tuple, a new list as the value of a display -/
theorem tup_at {H : Hp} {xs : List V} {Q : VK} (hl : xs.length ≤ 1000) (k : ∀ p H', H p = none → Same H H' → H' p = some (.tup xs) → Q (.ref p) H') : xs.length ≤ sizeLine ∧ ∀ p, H p = none → Q (.ref p) (upd H p (.tup xs)) :=
  ⟨Nat.le_trans hl (by decide), fun p hp => k p _ hp (same_new hp _) upd_same⟩
theorem lst_at {H : Hp} {xs : List V} {Q : VK} (hl : xs.length ≤ 1000) (k : ∀ p H', H p = none → Same H H' → H' p = some (.lst xs) → Q (.ref p) H') : xs.length ≤ sizeLine ∧ ∀ p, H p = none → Q (.ref p) (upd H p (.lst xs)) :=
  ⟨Nat.le_trans hl (by decide), fun p hp => k p _ hp (same_new hp _) upd_same⟩
/-- all but the object at p is as it was -/
def Kept (p : Addr) (H H' : Hp) : Prop := ∀ b o, H b = some o → b ≠ p → H' b = some o
theorem Same.kept {H H' : Hp} {p : Addr} (h : Same H H') : Kept p H H' := fun b o e _ => h b o e
theorem Kept.refl (p : Addr) (H : Hp) : Kept p H H := fun _ _ h _ => h
theorem Kept.trans {p : Addr} {H H1 H2 : Hp} (a : Kept p H H1) (b : Kept p H1 H2) : Kept p H H2 := fun c o h n => b c o (a c o h n) n
theorem kept_upd {p : Addr} {H : Hp} {o : HO} : Kept p H (upd H p o) := fun b u e n => by rw [upd_ne n]; exact e
/-- a tuple stays where the list at p changes -/
theorem Kept.tup {p t : Addr} {H H' : Hp} {xs ys : List V} (k : Kept p H H') (hp : H p = some (.lst ys)) (h : H t = some (.tup xs)) : H' t = some (.tup xs) := k t _ h (ne_of h hp (by intro z; cases z))

/-! ### tests -/
theorem iteD {c A B : Prop} [Decidable c] (h1 : c → A) (h2 : ¬ c → B) : if decide c = true then A else B := by
  by_cases h : c
  · rw [decide_eq_true h]
    exact iteT (h1 h)
  · rw [decide_eq_false h]
    exact iteF (h2 h)
theorem iteN {c A B : Prop} [Decidable c] (h1 : ¬ c → A) (h2 : c → B) : if (!decide c) = true then A else B := by
  by_cases h : c
  · rw [decide_eq_true h]
    exact iteF (h2 h)
  · rw [decide_eq_false h]
    exact iteT (h1 h)
theorem divw {i j : Int} (h0 : 0 < j) (h : j < 2 ^ 100) : CDivW i j := wide_div (b := 100) h0 (by omega) (by decide) (by decide)

/-! ### the defs of a text, by their promises -/
structure Cl (P : Program) (w : World) (K : PySem.W.Frag) (mg : Str → Option Value) (base : Heap) (x : Str) (ps : List Str) (dvs : List V) (lv : Nat) (sp : Sp) : Prop where
  ex : ∃ (f : Addr) (fd : FuncData) (ds : List Value), FnOk P w K mg base CX0 lv f fd ps sp ∧ mg x = some (.ref f) ∧ PySem.W.keepIn K (.ref f) = true ∧ Binds K fd ps ds ∧ Vals dvs ds
section
variable {X : Cx} {ps : List Str} {dvs : List V} {lv : Nat} {sp : Sp} {x : Str} {p pos : Pos} {e : Expr} {es : List Expr} {t : TA}
theorem pe_use (C : Cl X.prog X.w X.K X.mg X.base x ps dvs lv sp) (hr : Room lv X.A) (hg : Gl X x) (ha : PA X (e :: es) t) (hdb : (x == ("__debug__" : Str)) = false := by decide)
    (he : starEach (e :: es) X.env = (false, eval e X.env) :: starEach es X.env := by rfl) (hpl : (backTo pos (starEach es X.env)).any (·.1) = false := by rfl) : PE X (.Call (.Name x p) (e :: es) [] pos) (tCall sp dvs E0 t) := by
  obtain ⟨f, fd, ds, F, hm, hk, hb, hd⟩ := C.ex
  exact pe_call F hr hg hm hk hb hd pass0 ha hdb he hpl
theorem pe_use0 (C : Cl X.prog X.w X.K X.mg X.base x ps dvs lv sp) (hr : Room lv X.A) (hg : Gl X x) (hdb : (x == ("__debug__" : Str)) = false := by decide) : PE X (.Call (.Name x p) [] [] pos) (tCall sp dvs E0 tNil) := by
  obtain ⟨f, fd, ds, F, hm, hk, hb, hd⟩ := C.ex
  exact pe_call0 F hr hg hm hk hb hd pass0 hdb
end
/-- f(k = v, ..) without a value by place -/
structure ClK (P : Program) (w : World) (K : PySem.W.Frag) (mg : Str → Option Value) (base : Heap) (x : Str) (ps : List Str) (n : Nat) (ks : List Str) (gV : List V → List V → List V) (lv : Nat) (sp : Sp) : Prop where
  ex : ∃ (f : Addr) (fd : FuncData) (g : List Value → List Value → List Value), FnOk P w K mg base CX0 lv f fd ps sp ∧ mg x = some (.ref f) ∧ PySem.W.keepIn K (.ref f) = true ∧ KBn K fd ps n ks g gV
section
variable {X : Cx} {ps ks : List Str} {n : Nat} {gV : List V → List V → List V} {lv : Nat} {sp : Sp} {x : Str} {p pos : Pos} {e : Expr} {es : List Expr} {t tk : TA} {kws : List Keyword}
theorem pe_useK0 (C : ClK X.prog X.w X.K X.mg X.base x ps 0 ks gV lv sp) (hr : Room lv X.A) (hg : Gl X x) (hkw : PK X kws tk) (hall : (backToKw pos (keywordEach kws X.env)).all (·.1.isSome) = true := by rfl) (hks : (backToKw pos (keywordEach kws X.env)).filterMap (·.1) = ks := by rfl)
    (hdb : (x == ("__debug__" : Str)) = false := by decide) (hpl : ((backTo pos (starEach [] X.env)).any (·.1) || (backToKw pos (keywordEach kws X.env)).any (·.1.isNone)) = false := by rfl) :
    PE X (.Call (.Name x p) [] kws pos) (tCallN 0 ks.length sp gV E0 tNil tk) := by
  obtain ⟨f, fd, g, F, hm, hk, hb⟩ := C.ex
  refine ⟨fun pins s σ H Q I h => ?_⟩
  refine wpAny_Call_Name_kw (ld_glob I hg hm ?_ hdb)
  refine PySem.W.callWith_KW0 (h₀ := X.base) I.ok.mod.kin hk hall ?_ hpl
  refine thn (hkw.run pos pins s σ H _ I h) fun ws s2 ⟨zs, H2, I2, rz, l1, l2, q2⟩ => ⟨I2.kIn, ?_⟩
  rw [hks]
  exact run_fnN (us := []) (vs := []) F hr hb pass0 I2 .nil rz rfl l2 q2
theorem pe_useK (C : ClK X.prog X.w X.K X.mg X.base x ps n ks gV lv sp) (hr : Room lv X.A) (hg : Gl X x) (ha : PA X (e :: es) t) (hkw : PK X kws tk) (hall : (backToKw pos (keywordEach kws X.env)).all (·.1.isSome) = true := by rfl)
    (hks : (backToKw pos (keywordEach kws X.env)).filterMap (·.1) = ks := by rfl)
    (hdb : (x == ("__debug__" : Str)) = false := by decide) (he : starEach (e :: es) X.env = (false, eval e X.env) :: starEach es X.env := by rfl)
    (hpl : ((backTo pos (starEach (e :: es) X.env)).any (·.1) || (backToKw pos (keywordEach kws X.env)).any (·.1.isNone)) = false := by rfl) :
    PE X (.Call (.Name x p) (e :: es) kws pos) (tCallN n ks.length sp gV E0 t tk) := by
  obtain ⟨f, fd, g, F, hm, hk, hb⟩ := C.ex
  exact pe_callN F hr hg hm hk hb pass0 ha hkw hall hks hdb he hpl
end
/-- positional and keyword arguments that fill all parameters of a def with defaults -/
theorem kb_full {K : PySem.W.Frag} {x qual : Str} {params : Arguments} {body : List Stmt} {scope : Scope} {dvs : List V} {f : Addr} {fd : FuncData} {ps : List Str} (F : FunD K x qual params body scope dvs [] f fd) (n : Nat) (ks : List Str) (g : {α : Type} → List α → List α → List α → List α) (hd : dvs ≠ [])
    (hrel : ∀ {vs ds zs : List V} {us its ws : List Value}, Vals vs us → Vals ds its → Vals zs ws → Vals (g vs ds zs) (g us its ws))
    (h : ∀ (T : Addr) (kV doc pm : Value) (an : Option Addr) (cdv ct : Value) (us its ws : List Value), us.length = n → its.length = dvs.length → ws.length = ks.length →
      ∃ k, bindArgs (PySem.W.fnOf x qual params body scope (.ref T) kV doc pm an cdv ct) ⟨us, ks.zip ws⟩ = seqItems? (.ref T) >>= k ∧ k (some its.toArray) = pure (ps.zip (g us its ws))) :
    ∃ its : List Value, KBn K fd ps n ks (fun us ws => g us its ws) (fun vs zs => g vs dvs zs) := by
  obtain ⟨oc, od, dV, kV, doc, pm, an, cdv, ct, osl, rfl, lk, hcd, hD, hK⟩ := F.ex
  rcases hD with ⟨e, _⟩ | ⟨_, T, o, its, m, rfl, lT, oT, rT⟩
  · exact absurd e hd
  · refine ⟨its, ⟨fun s us ws X l1 l2 => ?_, fun r1 r2 => hrel r1 rT r2⟩⟩
    obtain ⟨k, e1, e2⟩ := h T kV doc pm an cdv ct us its ws l1 rT.length.symm l2
    refine BindsTo.of_looks fun M => ?_
    rw [e1]
    exact looks_items X lT oT (.of_pure e2)
end Hb

/-! enumerate of a tuple -/
namespace En
open PySem PySem.Spec PyProof.Rows L2
set_option maxHeartbeats 1000000 in
theorem new_one {v : Value} {it : Obj} {Z : Heap → Prop} (B : Begins v it Z) : Meets (Builtin.«enumerate.__new__» ⟨[.type "enumerate", v], []⟩) (fun _ R z => Z z.heap ∧
    R (.ok (.ret (.ref (z.heap.push it).objs.size))) { z with heap := (z.heap.push it).push { cls := .type "enumerate", data := .fields #[.none, .bool false, .ref z.heap.objs.size, rawInt 0, .none, .none] } }) :=
  .of_wp fun prog w A R z hz => by
    obtain ⟨hp, gs, dr, nt, oss⟩ := z
    obtain ⟨hZ, hR⟩ := hz
    have isub := sub_enumerate
    have begun : ∀ {A' : Around} {E : Value → Shared → Prop} {Q : Value → Shared → Prop}, Q (.ref hp.objs.size) ⟨hp.push it, gs, dr, nt, oss⟩ → wpAny (model prog w) A' (pyIter v) Q E ⟨hp, gs, dr, nt, oss⟩ :=
      fun qq => B.iter prog w _ _ ⟨hp, gs, dr, nt, oss⟩ _ hZ qq
    wp_walk using begun
    refine wpAny_stack_any fun _ => wpAny_pure ?_
    split
    · rename_i cl _ _ _ _ _
      cases (cl == Value.type "enumerate") <;> (wp_walk using begun; exact ⟨_, rfl, hR⟩)
    · wp_walk using begun
      exact ⟨_, rfl, hR⟩
section
variable {prog : Program} {w : World} {A : Around} {E : Value → Shared → Prop} {s : Shared}
theorem call_one {v : Value} {it : Obj} {Z : Heap → Prop} {Q : Value → Shared → Prop} (B : Begins v it Z) (hZ : Z s.heap)
    (fin : ∀ h', IsEnum h' (s.heap.objs.size + 1) s.heap.objs.size 0 .none → h'.get? s.heap.objs.size = some it → (∀ b o, s.heap.get? b = some o → h'.get? b = some o) → Q (.ref (s.heap.objs.size + 1)) { s with heap := h' }) :
    wpAny (model prog w) A (call (.type "enumerate") [v]) Q E s := by
  refine callType_new F.called_enumerate (by decide) (F.typeCall_enumerate_1 v) (F.newCall_enumerate_1 v) (fun self => F.args_object_init_2 self v) F.entry_enumerate_new (new_one B) ⟨hZ, ?_⟩
  have size1 : (s.heap.push it).objs.size = s.heap.objs.size + 1 := Heap.size_push ..
  show _ ∧ _
  rw [size1]
  have at1 : IsEnum ((s.heap.push it).push { cls := .type "enumerate", data := .fields #[.none, .bool false, .ref s.heap.objs.size, rawInt 0, .none, .none] }) (s.heap.objs.size + 1) s.heap.objs.size 0 .none := by
    have z := Heap.get?_push_size (s.heap.push it) (o := { cls := .type "enumerate", data := .fields #[.none, .bool false, .ref s.heap.objs.size, rawInt 0, .none, .none] }) rfl
    rw [size1] at z
    exact z
  exact ⟨⟨_, at1, rfl⟩, fin _ at1 (Heap.get?_push_of_some _ (Heap.get?_push_size _ B.free)) fun b o y => Heap.get?_push_of_some _ (Heap.get?_push_of_some _ y)⟩
end
def IteT (K : PySem.W.Frag) (a : Addr) : It where
  go i H := ∃ (xs : List V) (x : V), SqT K H a xs ∧ xs[i]? = some x
  yld i H v H' := ∃ T x, v = .ref T ∧ H T = none ∧ H' = upd H T (.tup [.int (i : Nat), x]) ∧ ∀ xs, SqT K H a xs → xs[i]? = some x
  stop i H := ∃ xs : List V, SqT K H a xs ∧ xs.length ≤ i
theorem tup_ne {h : Heap} {a it : Addr} {k : Nat} {items : Array Value} (h1 : h.IsTuple a items) (h2 : h.IsTupleIter it a k) : a ≠ it := by
  intro e
  obtain ⟨o, ho, hc, _⟩ := h1
  obtain ⟨o2, ho2, hc2, _⟩ := h2
  rw [← e, ho] at ho2
  cases ho2
  exact absurd (Value.type.inj (hc.symm.trans hc2)) (by decide)
theorem turn_enumT {P : Program} {w : World} {K : PySem.W.Frag} {elts : List Expr} {kk : Nat} {tpos : Pos} (a e it : Addr) :
    Turn P w K (.Tuple elts kk tpos) (IteT K a) [e, it] e (fun i h => (∃ old, IsEnum h e it ((i : Nat) : Int) old) ∧ h.IsTupleIter it a i ∧ e ≠ it) where
  mem := by simp
  obj i h st b hb := by
    obtain ⟨⟨old, hen⟩, ⟨o, ho, _, hd⟩, _⟩ := st
    rcases (show b = e ∨ b = it by simpa using hb) with z | z
    · exact ⟨_, by rw [z]; exact hen, fun v q => by cases (show Data.fields _ = Data.cell v from q)⟩
    · exact ⟨o, by rw [z]; exact ho, fun v q => by rw [hd] at q; cases q⟩
  keep i h h' st k := by
    obtain ⟨⟨old, hen⟩, hti, ne⟩ := st
    exact ⟨⟨old, k e (by simp) _ hen⟩, hti.at fun o q => k it (by simp) o q, ne⟩
  item := by
    intro X hP hw hK hc i pins s σ H E I hf st hg
    subst hP hw hK
    obtain ⟨⟨old, hen⟩, hti, ne⟩ := st
    obtain ⟨xs, x, hq, hx⟩ := hg
    obtain ⟨its, rel, pt, _⟩ := I.tuple hq
    obtain ⟨u, hu, ru⟩ := rel.get hx
    have lt1 : e < s.heap.objs.size := Heap.lt_size hen
    have lt2 : it < s.heap.objs.size := by obtain ⟨_, y, _⟩ := hti; exact Heap.lt_size y
    have ane := tup_ne pt hti
    have elt : ∀ b ∈ [e, it], b < s.heap.objs.size := fun b hb => by
      rcases (show b = e ∨ b = it by simpa using hb) with z | z <;> rw [z] <;> assumption
    have ena : e ≠ a := fun z => by
      obtain ⟨o, ho, hcl, _⟩ := pt
      have q : s.heap.get? e = _ := hen
      rw [z, ho] at q
      cases q
      exact absurd (Value.type.inj hcl) (by decide)
    have hh : X.A.in1.handled = none := I.ok.hd hc
    refine wpAny_pyNext_enum_itemD (Draws.tuple hh it a ane its.toArray) hen ⟨hti, pt⟩ (show i < its.toArray.size by rw [List.size_toArray]; exact (List.getElem?_eq_some_iff.mp hu).1) ne (by simp [ne, ena]) fun y h' tk hy out st' hT hsz hk => ?_
    have hyu : y = u := by
      have : its[i]? = some y := by simpa using hy
      rw [hu] at this
      exact (Option.some.inj this).symm
    subst hyu
    refine ⟨_, rfl, wpAny_letOwnedTupleGo_enum (s := { s with heap := h', toks := tk + 1 }) out fun h2 hen2 sb => ?_⟩
    have t2 : h2.get? s.heap.objs.size = some { cls := .type "tuple", data := .seq #[.int i tk, y] } := (sb.2 _ (Nat.ne_of_gt lt1)).trans hT
    have newT : ObjOk X.prog X.w (upd H s.heap.objs.size (.tup [.int (i : Nat), x])) h2 s.heap.objs.size (.tup [.int (i : Nat), x]) :=
      ⟨by show 2 ≤ sizeLine; decide, [.int i tk, y], .cons ⟨_, rfl⟩ (.cons ru .nil), ⟨_, t2, rfl, _, rfl⟩⟩
    have J : Inv X pins σ (upd H s.heap.objs.size (.tup [.int (i : Nat), x])) { s with heap := h2, toks := tk + 1 } :=
      I.turnedNew (t' := tk + 1) (ch := [e, it]) (fun b ob hb q => (sb.2 b (fun z => hb (by simp [z]))).trans (hk b ob (fun z => hb (by simp [z])) (fun z => hb (by simp [z])) q)) hf (Nat.le_refl _) newT
    refine ⟨.ref s.heap.objs.size, _, J, rfl, ⟨_, x, rfl, I.hok.fresh (Nat.le_refl _), rfl, fun ys hys => by rw [I.tuple_inj hys hq]; exact hx⟩, ⟨⟨y, ?_⟩, st'.1.at fun o q => (sb.2 it (Ne.symm ne)).trans q, ne⟩, fun b hb => ?_⟩
    · rw [show ((i + 1 : Nat) : Int) = (i : Int) + 1 by omega]
      exact hen2
    · rw [upd_ne (Nat.ne_of_lt (elt b hb))]
      exact (hf b hb).1
  done := by
    intro X hP hw hK hc i pins s σ H E I hf st hg
    subst hP hw hK
    obtain ⟨⟨old, hen⟩, hti, ne⟩ := st
    obtain ⟨xs, hq, hx⟩ := hg
    obtain ⟨its, rel, pt, _⟩ := I.tuple hq
    obtain ⟨g0, g1, g2, g3, g4, g5⟩ := hf it (by simp)
    have hl := rel.length
    have hh : X.A.in1.handled = none := I.ok.hd hc
    have T : Draws X.prog X.w X.A.in1 it [it, a] i (fun i v => its.toArray[i]? = some v) (fun k h => k = i ∧ h.IsTupleIter it a i ∧ h.IsTuple a its.toArray) := {
      live := fun _ _ sj => let ⟨o, ho, _⟩ := sj.2.1; ⟨o, ho⟩
      frame := fun _ _ _ sj k => ⟨sj.1, sj.2.1.at fun o q => k it (by simp) o q, sj.2.2.at fun o q => k a (by simp) o q⟩
      item := fun j z Q' E' hj sj hQ => absurd sj.1 (Nat.ne_of_lt hj)
      done := fun z Q' E' sj hE => wpAny_nextOf_tuple_end hh sj.2.1 sj.2.2 (by simp; omega) hE }
    exact wpAny_pyNext_enum_endD T hen ⟨rfl, hti, pt⟩ fun h' eb => ⟨rfl, I.turned (t' := s.toks) (fun b o hb q => eb b o hb q) g0 g1 g3 g4 g5⟩
  self A i s Q E st h := by
    obtain ⟨⟨_, hen⟩, _⟩ := st
    exact wpAny_pyIter_enum hen h
def iEnumT (K : PySem.W.Frag) (ta : TA) : TI := fun σ H R => ta σ H fun vs H1 => ∃ a, vs = [.ref a] ∧ (∃ xs, SqT K H1 a xs) ∧ R (IteT K a) H1
theorem pi_enumT {X : Cx} {e : Expr} {ta : TA} {p pos tpos : Pos} {elts : List Expr} {kk : Nat} (hg : Gl X "enumerate") (hm : X.mg "enumerate" = none) (ha : PA X [e] ta) (hs : starEach [e] X.env = [(false, eval e X.env)] := by rfl) :
    PI X (.Tuple elts kk tpos) (.Call (.Name "enumerate" p) [e] [] pos) (iEnumT X.K ta) := by
  refine ⟨fun pins s σ H R I h => Call_ (ld_blt I hg hm boot_enumerate (PyProof.Rows.callWith_type1 (thn (ha.run pos pins s σ H _ I h) fun us s1 gone => ?_) hs rfl))⟩
  obtain ⟨vs, H1, I1, rel, a, rfl, ⟨xs, hq⟩, qq⟩ := gone
  match us, rel with
  | [_], .cons r .nil =>
    cases r
    obtain ⟨its, _, pt, _⟩ := I1.tuple hq
    refine call_one (begins_tuple a its.toArray) pt fun h' hen hit hk => wpAny_pyIter_enum hen ?_
    have J : Inv X pins σ H1 { s1 with heap := h' } := I1.kept (t' := s1.toks) hk
    refine ⟨s1.heap.objs.size + 1, [s1.heap.objs.size + 1, s1.heap.objs.size], _, _, H1, rfl, J, turn_enumT a (s1.heap.objs.size + 1) s1.heap.objs.size, ⟨⟨.none, hen⟩, ⟨_, hit, rfl, rfl⟩, Nat.succ_ne_self _⟩, fun b hb => ?_, qq⟩
    have le : s1.heap.objs.size ≤ b := by
      rcases (show b = s1.heap.objs.size + 1 ∨ b = s1.heap.objs.size by simpa using hb) with z | z
      · rw [z]; exact Nat.le_succ _
      · rw [z]; exact Nat.le_refl _
    exact I1.fpOk le (I1.hok.fresh le)
/-- for i, x in enumerate(t) -/
theorem for_enumT {K : PySem.W.Frag} {a : Addr} {xs : List V} {g : TG} {tb : TS} {D : Ends} {σ : L2.St} {H : Hp} (Pv : Nat → L2.St → Hp → Prop) (h0 : Pv 0 σ H) (hl : ∀ i σ H, Pv i σ H → SqT K H a xs)
    (hs : ∀ (i : Nat) (x : V) (T : Addr) (σ : L2.St) (H : Hp), xs[i]? = some x → Pv i σ H → H T = none → g (.ref T) σ (upd H T (.tup [.int (i : Nat), x])) fun σ2 H2 => tb { D with nx := Pv (i + 1), ct := Pv (i + 1), bk := D.nx } σ2 H2)
    (hd : ∀ σ H, Pv xs.length σ H → D.nx σ H) :
    ∃ W : Nat → Nat → L2.St → Hp → Prop, (∃ m, W 0 m σ H) ∧ ∀ i m σ H, W i m σ H →
      ((IteT K a).stop i H ∧ D.nx σ H) ∨ ((IteT K a).go i H ∧ ∃ N : L2.St → Hp → Prop, (∀ σ' H', N σ' H' → ∃ m', m' < m ∧ W (i + 1) m' σ' H') ∧ ∀ v H', (IteT K a).yld i H v H' → g v σ H' fun σ2 H2 => tb { D with nx := N, ct := N, bk := D.nx } σ2 H2) := by
  refine ⟨fun i m σ H => m + i = xs.length ∧ Pv i σ H, ⟨xs.length, rfl, h0⟩, fun i m σ H ⟨e, p⟩ => ?_⟩
  have q := hl i σ H p
  cases m with
  | zero => exact .inl ⟨⟨xs, q, by omega⟩, hd σ H (by rw [show xs.length = i by omega]; exact p)⟩
  | succ m =>
    have hlt : i < xs.length := by omega
    refine .inr ⟨⟨xs, xs[i], q, List.getElem?_eq_getElem hlt⟩, Pv (i + 1), fun σ' H' p' => ⟨m, Nat.lt_succ_self m, by omega, p'⟩, fun v H' y => ?_⟩
    obtain ⟨T, x, rfl, hT, rfl, hx⟩ := y
    exact hs i x T σ H (hx xs q) p hT
end En

/-! sets of texts, made of a list or tuple; sorted of them -/
namespace St
open PySem PySem.Spec PyProof.Rows L2 PySem.Froz
section
variable {P : Program} {w : World} {A : Around} {E : Value → Shared → Prop} {s : Shared}
/-- the order of a set's walk is known to be some order -/
def Led (w : World) (t : SetTable) : Prop := w.params.followText "set-order" = true ∨ t.led = true
/-- the set of the texts l stands at a -/
def TS (P : Program) (w : World) (h : Heap) (a : Addr) (l : List Str) : Prop := ∃ D, h.get? a = some (sObj "set" D) ∧ TxOk P w D l ∧ Ris D.2.2.place.toList ∧ Led w D.2.2 ∧ l.Nodup
theorem TS.at {h h' : Heap} {a : Addr} {l : List Str} (R : TS P w h a l) (k : ∀ o, h.get? a = some o → h'.get? a = some o) : TS P w h' a l := let ⟨D, e, r⟩ := R; ⟨D, k _ e, r⟩
theorem tail_ris {es : Array (Int × Value)} {t : SetTable} {ep : Nat} {wd : Bool} (r : Ris t.place.toList) : Ris (tailTx ep es t wd).2.2.place.toList := by
  unfold tailTx
  by_cases c : (!wd && t.tooFull) = true
  · rw [if_pos c]; exact relayAll_ris _ _ _
  · rw [if_neg c]; exact r
theorem tail_led {es : Array (Int × Value)} {t : SetTable} {ep : Nat} {wd : Bool} (r : t.led = true) : (tailTx ep es t wd).2.2.led = true := by
  unfold tailTx
  by_cases c : (!wd && t.tooFull) = true
  · rw [if_pos c]; exact (relayAll_led _ _ _).trans r
  · rw [if_neg c]; exact r
theorem addTx_ris {D : SD} {n : Int} {v : Value} (r : Ris D.2.2.place.toList) : Ris (addTx n v D).2.2.place.toList := by
  have r1 := layNew_ris D.2.2 D.1 n v r
  unfold addTx
  refine tail_ris ?_
  by_cases c : (layNew D.2.2 D.1 n v).2.1.plain = true
  · rw [if_pos c]; exact r1
  · rw [if_neg c]; exact r1
theorem addTx_led {D : SD} {n : Int} {v : Value} (r : Led w D.2.2) : Led w (addTx n v D).2.2 := by
  rcases r with r | r
  · exact .inl r
  · have l1 : (layNew D.2.2 D.1 n v).2.1.led = true := (layNew_led _ _ _ _).trans r
    refine .inr ?_
    unfold addTx
    refine tail_led ?_
    by_cases c : (layNew D.2.2 D.1 n v).2.1.plain = true
    · rw [if_pos c]; exact l1
    · rw [if_neg c]; exact l1
/-- add of a text that is in already -/
theorem had_x {a : Addr} {D : SD} {l : List Str} {k : Str} {u : Tok} {Q : Bool → Shared → Prop} (ho : s.heap.get? a = some (sObj "set" D)) (F : TxOk P w D l) (hk : k ∈ l) (hb : l.length < scanBound)
    (q : Q false s) : wpAny (model P w) A (setAddHashed a (.str k u) (hashStr w k)) Q E s := by
  obtain ⟨es, ep, t⟩ := D
  have small : es.size < scanBound := by rw [show es.size = l.length from F.sz]; exact hb
  obtain ⟨e, he, ie⟩ := (F.mem k).mp hk
  unfold setAddHashed setAddHashedIn
  refine wpAny_holding (wpAny_bind (wpAny_setState_of ho (rfl : (sObj "set" (es, ep, t)).data = .set es ep t) F.fit ?_)); dsimp only
  rw [byScan_of rfl small F.el, if_pos rfl]; unfold setAddByScan
  refine wpAny_bind (wpAny_bind (wpAny_rule (wpAny_bind (wpAny_setScan_of (knd := strKind P w) (is_str k u) ho rfl F.fit F.el ?_))))
  cases hr : es.toList.findIdx? (fun e => (strKind P w).is k e.2) with
  | some j => exact wpAny_pure (wpAny_pure q)
  | none => exact absurd ie (by rw [List.findIdx?_eq_none_iff.mp hr e he]; decide)
theorem ts_add {a : Addr} {l : List Str} {k : Str} {u : Tok} {Q : Bool → Shared → Prop} (R : TS P w s.heap a l) (hb : l.length + 1 < scanBound)
    (q : ∀ h' b, Heap.SameBut a s.heap h' → TS P w h' a (if k ∈ l then l else k :: l) → Q b { s with heap := h' }) : wpAny (model P w) A (setAddHashed a (.str k u) (hashStr w k)) Q E s := by
  obtain ⟨D, e, F, r, ld, nd⟩ := R
  by_cases hk : k ∈ l
  · exact had_x e F hk (by omega) (q s.heap false (Heap.SameBut.refl a s.heap) ⟨D, e, by rw [if_pos hk]; exact F, r, ld, by rw [if_pos hk]; exact nd⟩)
  · refine add_x e F hk hb (q _ true (Heap.SameBut.update s.heap a _) ⟨_, get_upd _ e rfl, ?_, addTx_ris r, addTx_led ld, ?_⟩)
    · rw [if_neg hk]; exact add_ok u F
    · rw [if_neg hk]; exact List.nodup_cons.mpr ⟨hk, nd⟩
/-- S.update(it), texts -/
theorem upd_texts {I : Addr} {fp wr : List Addr} {G : Array GenState → Array GenState → Prop} {n : Nat} {Pv : Nat → Value → Prop} {St : Nat → Shared → Prop} {R : Result → Shared → Prop}
    (W : WalksS P w A.in1 I fp wr G n Pv St) {S : Addr} (hS : S ∉ fp) {xs : List Str} (hn : n = xs.length) (hb : xs.length + 1 < scanBound) (hv : ∀ i v, Pv i v → ∃ x t, xs[i]? = some x ∧ v = .str x t) :
    ∀ (k i : Nat) (s : Shared) (l : List Str), n - i = k → i ≤ n → St i s → TS P w s.heap S l → l.length ≤ i → (∀ x, x ∈ l ↔ x ∈ xs.take i) →
      (∀ s' m, Moved (S :: wr) G s s' → TS P w s'.heap S m → m.length ≤ n → (∀ x, x ∈ m ↔ x ∈ xs) → R (.ok (.ret .none)) s') →
      codeAny (model P w) A (.builtin "set.update.loop" ⟨[.ref S, .ref I], []⟩) R s := by
  have sw : S ∉ wr := fun z => hS (W.sub S z)
  have wide : ∀ {s s' : Shared}, Moved wr G s s' → Moved (S :: wr) G s s' := fun m => m.mono fun b z => List.mem_cons_of_mem S z
  intro k
  induction k with
  | zero =>
    intro i s l e1 e2 st hT hl hm q
    obtain rfl : i = n := by omega
    refine codeAny_builtin F.entry_set_update_loop ?_
    rw [Around.under_plainId F.plain_set_update_loop _]
    refine wpAny_bind (m := pyNext (.ref I)) (W.done s _ _ st fun s' mv => ?_)
    refine wpAny_pure (q s' l (wide mv) (hT.at fun o e => mv.heap S o sw e) hl fun x => ?_)
    rw [hm x, List.take_of_length_le (by omega)]
  | succ k ih =>
    intro i s l e1 e2 st hT hl hm q
    have hi : i < n := by omega
    refine codeAny_builtin F.entry_set_update_loop ?_
    rw [Around.under_plainId F.plain_set_update_loop _]
    refine wpAny_bind (m := pyNext (.ref I)) (W.item i s _ _ hi st fun v s1 pv st1 mv => ?_)
    obtain ⟨x, t, ex, rfl⟩ := hv i v pv
    refine wpAny_bind (m := holding [Value.str x t] (setAdd S (.str x t))) (wpAny_holding ?_)
    unfold setAdd
    refine wpAny_holding (wpAny_bind ((strKind P w).pyHash (is_str (P := P) (w := w) x t) ?_))
    refine ts_add (s := { s1 with toks := s1.toks + 1 }) (hT.at fun o e => mv.heap S o sw e) (by omega) fun h' _ sb hT' => ?_
    have back : ∀ b o, b ≠ S → s1.heap.get? b = some o → h'.get? b = some o := fun b o ne e => (sb.2 b ne).trans e
    refine wpAny_pure ⟨plainId_quiet F.plain_set_update_loop _, ih (i + 1) _ _ (by omega) hi (W.frame _ s1 _ _ st1 (Nat.le_succ _) fun b z o e => back b o (fun y => hS (y ▸ z)) e) hT' ?_ (fun y => ?_) fun s2 m mv2 hT2 hl2 hm2 => ?_⟩
    · split
      · omega
      · rw [List.length_cons]; omega
    · rw [List.take_add_one, ex, List.mem_append, ← hm y]
      show _ ↔ _ ∨ y ∈ [x]
      rw [List.mem_singleton]
      split
      · exact ⟨.inl, fun z => z.elim id fun z => z ▸ (by assumption)⟩
      · rw [List.mem_cons]; exact Or.comm
    · exact q s2 m (Moved.trans W.gtrans ((wide mv).then_heap (Nat.le_succ _) fun b o z e => back b o (fun y => z (y ▸ List.mem_cons_self)) e) mv2) hT2 hl2 hm2
end
end St

namespace St
open PySem PySem.Spec PyProof.Rows L2 PySem.Froz
/-- a new set -/
abbrev S0 (w : World) : Obj := { cls := .type "set", dict := none, data := .set #[] 0 (.fresh 0 0 (!w.params.followText "set-order")) }
section
variable {P : Program} {w : World} {A : Around} {E : Value → Shared → Prop} {s : Shared}
set_option maxHeartbeats 8000000 in
/-- set(x), x a list or a tuple at l: its loop told by `loop` -/
theorem set_call {l : Addr} {T : String} {ol itO : Obj} {Res : Heap → Prop} {Q : Value → Shared → Prop} (hh : A.handled = none) (hol : s.heap.get? l = some ol) (hcl : ol.cls = .type T)
    (n1 : isSubtype (.type T) (.type "set") = pure false) (n2 : isSubtype (.type T) (.type "frozenset") = pure false) (n3 : (Value.type T == Value.type "dict") = false)
    (itr : ∀ {A : Around} {E : Value → Shared → Prop} {s1 : Shared} {Q : Value → Shared → Prop}, s1.heap.get? l = some ol → Q (.ref s1.heap.objs.size) { s1 with heap := s1.heap.push itO } → wpAny (model P w) A (pyIter (.ref l)) Q E s1)
    (loop : ∀ (A' : Around) (R : Result → Shared → Prop) (tk : Tok), A'.handled = none →
      (∀ h' tk', Res h' → (∀ b o, s.heap.get? b = some o → h'.get? b = some o) → R (.ok (.ret .none)) { s with heap := h', toks := tk' }) →
      codeAny (model P w) A' (.builtin "set.update.loop" ⟨[.ref s.heap.objs.size, .ref (s.heap.push (S0 w)).objs.size], []⟩) R { s with heap := (s.heap.push (S0 w)).push itO, toks := tk })
    (q : ∀ h' tk, Res h' → (∀ b o, s.heap.get? b = some o → h'.get? b = some o) → Q (.ref s.heap.objs.size) { s with heap := h', toks := tk }) :
    wpAny (model P w) A (call (.type "set") [.ref l]) Q E s := by
  obtain ⟨_, _, mro⟩ := F.called_set.mro; have made := F.called_set.made; have sub := F.called_set.sub; have k1 := F.called_set.notType; have k2 := F.called_set.canCreate; have ct := F.typeCall_set_1 (.ref l)
  refine wpAny_call (codeAny_of_tree ?_); show wpAny _ _ (callAny (.type "set") _) _ _ _
  refine wpAny_pure ⟨Code.quiet_builtin _ (by decide +kernel), codeAny_builtin F.entry_type_call ?_⟩; rw [Around.under_plain (weight_type_call_type "set" [.ref l] []) rfl]
  repeat any_goals first | assumption | wp_step
  refine codeAny_mono (code_set_led1 (.ref l) (E := E) (Q₁ := fun o s1 => o = .ref s.heap.objs.size ∧ s1 = { s with heap := s.heap.push (S0 w) }) ⟨rfl, rfl⟩) fun r s1 hr => ?_
  rcases r with e | (_ | _ | _ | o)
  · exact hr
  · exact hr.elim
  · exact hr.elim
  · exact hr.elim
  · obtain ⟨rfl, rfl⟩ := hr
    have hS : (s.heap.push (S0 w)).get? s.heap.objs.size = some (S0 w) := Heap.get?_push_size _ rfl
    have hT : Shared.TypeIs { s with heap := s.heap.push (S0 w) } (.ref s.heap.objs.size) "set" := ⟨_, hS, rfl⟩
    have il := F.called_set.init.lookup; have ib := F.called_set.init.bind (.ref s.heap.objs.size)
    repeat any_goals first | assumption | wp_step
    refine codeAny_mono (codeAny_call_builtin (R := wants (fun r s2 => r = .none ∧ ∃ h' tk, s2 = { s with heap := h', toks := tk } ∧ Res h' ∧ (∀ b o, s.heap.get? b = some o → h'.get? b = some o)) E) F.called_set.init.plain F.entry_set_init (check_set_init_1 hT ?_)) fun r2 s2 h2 => ?_
    · have e1 : (s.heap.push (S0 w)).get? l = some ol := Heap.get?_push_of_some _ hol
      have hTl : Shared.TypeIs { s with heap := s.heap.push (S0 w) } (.ref l) T := ⟨ol, e1, hcl⟩
      unfold Builtin.«set.__init__» noKeywords Builtin.Frozenset.updateFrom
      generalize hI : pyIter = PI
      obtain ⟨c, d, da, sl⟩ := ol
      dsimp only at hcl
      subst hcl
      wp_walk
      subst hI
      refine itr e1 (wpAny_bind (wpAny_runValue (loop _ _ _ (by simp [hh]) fun h' tk r k => ?_)))
      exact wpAny_pure (wpAny_pure ⟨rfl, h', tk, rfl, r, k⟩)
    · rcases r2 with e | (_ | _ | _ | o)
      · exact h2
      · exact h2.elim
      · exact h2.elim
      · exact h2.elim
      · obtain ⟨rfl, h', tk, rfl, r, k⟩ := h2
        repeat any_goals first | assumption | wp_step
        exact q _ _ r k
end
end St

namespace St
open PySem PySem.Spec PyProof.Rows L2 PySem.Froz
section
variable {P : Program} {w : World} {A : Around} {E : Value → Shared → Prop} {s : Shared}
theorem lkp {h : Heap} {o o' : Obj} {b : Addr} {u : Obj} (e : h.get? b = some u) : ((h.push o).push o').get? b = some u := Heap.get?_push_of_some _ (Heap.get?_push_of_some _ e)
/-- what the loop of the update leaves -/
theorem moved_end {s s' : Shared} {h1 : Heap} {tk : Tok} {S I : Addr} (hS : S = s.heap.objs.size) (hI : s.heap.objs.size ≤ I) (old : ∀ b o, s.heap.get? b = some o → h1.get? b = some o)
    (m : Moved [S, I] (fun a b => b = a) { s with heap := h1, toks := tk } s') : s' = { s with heap := s'.heap, toks := s'.toks } ∧ ∀ b o, s.heap.get? b = some o → s'.heap.get? b = some o := by
  refine ⟨?_, fun b o e => m.heap b o (fun z => ?_) (old b o e)⟩
  · have g := m.gens
    have d := m.drawn
    have os := m.os
    cases s'
    dsimp only at g d os ⊢
    rw [g, d, os]
  · have lt := Heap.lt_size e
    rcases List.mem_cons.mp z with z | z
    · exact absurd lt (by rw [z, hS]; exact Nat.lt_irrefl _)
    · exact absurd lt (by rw [List.mem_singleton.mp z]; exact Nat.not_lt_of_le hI)
theorem places {l : Addr} (lt : l < s.heap.objs.size) : l ≠ (s.heap.push (S0 w)).objs.size ∧ s.heap.objs.size ∉ [(s.heap.push (S0 w)).objs.size, l] ∧ s.heap.objs.size ≤ (s.heap.push (S0 w)).objs.size := by
  rw [Heap.size_push]
  refine ⟨Nat.ne_of_lt (Nat.lt_succ_of_lt lt), fun z => ?_, Nat.le_succ _⟩
  rcases List.mem_cons.mp z with z | z
  · exact absurd z (Nat.ne_of_lt (Nat.lt_succ_self _))
  · exact absurd (List.mem_singleton.mp z) (Nat.ne_of_gt lt)
/-- set(x), texts, x a list or a tuple -/
theorem set_texts {l : Addr} {its : Array Value} {xs : List Str} {Q : Value → Shared → Prop} (hh : A.handled = none) (hl : s.heap.IsList l its ∨ s.heap.IsTuple l its) (hx : StrsAre its.toList xs) (hb : xs.length + 1 < scanBound)
    (q : ∀ h' tk m, TS P w h' s.heap.objs.size m → m.length ≤ xs.length → (∀ x, x ∈ m ↔ x ∈ xs) → (∀ b o, s.heap.get? b = some o → h'.get? b = some o) → Q (.ref s.heap.objs.size) { s with heap := h', toks := tk }) :
    wpAny (model P w) A (call (.type "set") [.ref l]) Q E s := by
  have len : its.size = xs.length := by rw [← Array.length_toList]; exact hx.len_eq
  have val : ∀ i v, its[i]? = some v → ∃ x t, xs[i]? = some x ∧ v = Value.str x t := fun i v e => by
    rw [← Array.getElem?_toList] at e
    have hi : i < xs.length := by rw [← hx.len_eq]; exact (List.getElem?_eq_some_iff.mp e).1
    obtain ⟨t, et⟩ := hx.at (List.getElem?_eq_getElem hi)
    exact ⟨xs[i], t, List.getElem?_eq_getElem hi, Option.some.inj (e.symm.trans et)⟩
  have fin : ∀ (I : Addr), I = (s.heap.push (S0 w)).objs.size → I = s.heap.objs.size + 1 := fun I e => e.trans (Heap.size_push ..)
  have start : ∀ o', TS P w ((s.heap.push (S0 w)).push o') s.heap.objs.size [] := fun o' =>
    ⟨(#[], 0, .fresh 0 0 (!w.params.followText "set-order")), Heap.get?_push_of_some _ (Heap.get?_push_size _ rfl), TxOk.nil rfl, List.Pairwise.nil, by
      show _ ∨ (!w.params.followText "set-order") = true
      cases w.params.followText "set-order" <;> simp, List.nodup_nil⟩
  rcases hl with ⟨ol, e, c, n, d⟩ | ⟨ol, e, c, n, d⟩
  · refine set_call (Res := fun h' => ∃ m, TS P w h' s.heap.objs.size m ∧ m.length ≤ xs.length ∧ ∀ x, x ∈ m ↔ x ∈ xs) hh e c F.sub_list_set F.sub_list_frozenset (by decide) (fun {_ _ s1 _} e1 h => wpAny_pyIter_list (s := s1) ⟨ol, e1, c, n, d⟩ h) (fun A' R tk ha hR => ?_) fun h' tk ⟨m, r1, r2, r3⟩ k => q h' tk m r1 r2 r3 k
    have lt := Heap.lt_size e
    obtain ⟨ne, nin, up⟩ := places (w := w) lt
    refine upd_texts (s := { s with heap := (s.heap.push (S0 w)).push _, toks := tk }) ((Walks.list (A := A'.in1) (by simpa using ha) _ l ne its).toS) (S := s.heap.objs.size) nin len hb val (its.size - 0) 0 [] (by omega) (Nat.zero_le _)
      ⟨⟨_, Heap.get?_push_size _ rfl, rfl, rfl⟩, ⟨ol, lkp e, c, n, d⟩⟩ (start _) (Nat.zero_le _) (fun x => by simp) fun s' m mv r1 r2 r3 => ?_
    obtain ⟨es, k⟩ := moved_end rfl up (fun b o z => lkp z) mv
    rw [es]
    exact hR _ _ ⟨m, r1, by omega, r3⟩ k
  · refine set_call (Res := fun h' => ∃ m, TS P w h' s.heap.objs.size m ∧ m.length ≤ xs.length ∧ ∀ x, x ∈ m ↔ x ∈ xs) hh e c F.sub_tuple_set F.sub_tuple_frozenset (by decide) (fun {_ _ s1 _} e1 h => wpAny_pyIter_tuple (s := s1) ⟨ol, e1, c, n, d⟩ h) (fun A' R tk ha hR => ?_) fun h' tk ⟨m, r1, r2, r3⟩ k => q h' tk m r1 r2 r3 k
    have lt := Heap.lt_size e
    obtain ⟨ne, nin, up⟩ := places (w := w) lt
    refine upd_texts (s := { s with heap := (s.heap.push (S0 w)).push _, toks := tk }) ((Walks.tuple (A := A'.in1) (by simpa using ha) _ l ne its).toS) (S := s.heap.objs.size) nin len hb val (its.size - 0) 0 [] (by omega) (Nat.zero_le _)
      ⟨⟨_, Heap.get?_push_size _ rfl, rfl, rfl⟩, ⟨ol, lkp e, c, n, d⟩⟩ (start _) (Nat.zero_le _) (fun x => by simp) fun s' m mv r1 r2 r3 => ?_
    obtain ⟨es, k⟩ := moved_end rfl up (fun b o z => lkp z) mv
    rw [es]
    exact hR _ _ ⟨m, r1, by omega, r3⟩ k
/-- set(x), ints, x a list or a tuple -/
theorem set_ints {l : Addr} {its : Array Value} {xs : List Int} {Q : Value → Shared → Prop} (hh : A.handled = none) (hl : s.heap.IsList l its ∨ s.heap.IsTuple l its) (hx : IntsAre its.toList xs) (hb : xs.length + 1 < scanBound)
    (q : ∀ h' tk c, SetR w h' s.heap.objs.size (fun j => decide (j ∈ xs)) c → c ≤ xs.length → (∀ b o, s.heap.get? b = some o → h'.get? b = some o) → Q (.ref s.heap.objs.size) { s with heap := h', toks := tk }) :
    wpAny (model P w) A (call (.type "set") [.ref l]) Q E s := by
  have len : its.size = xs.length := by rw [← Array.length_toList]; exact hx.length
  have val : ∀ i v, its[i]? = some v → ∃ k t, xs[i]? = some k ∧ v = Value.int k t := fun i v e => by
    have hi : i < xs.length := by rw [← len]; exact (Array.getElem?_eq_some_iff.mp e).1
    obtain ⟨t, et⟩ := IntsAre.int_at hx i v (by rw [Array.getElem?_toList]; exact e)
    exact ⟨xs[i], t, List.getElem?_eq_getElem hi, by rw [et, List.getD_eq_getElem?_getD, List.getElem?_eq_getElem hi] <;> rfl⟩
  have start : ∀ o', SetR w ((s.heap.push (S0 w)).push o') s.heap.objs.size (fun j => decide (j ∈ xs.take 0)) 0 := fun o' => setR_new_at (Heap.get?_push_of_some _ (Heap.get?_push_size _ rfl))
  rcases hl with ⟨ol, e, c, n, d⟩ | ⟨ol, e, c, n, d⟩
  · refine set_call (Res := fun h' => ∃ c, SetR w h' s.heap.objs.size (fun j => decide (j ∈ xs)) c ∧ c ≤ xs.length) hh e c F.sub_list_set F.sub_list_frozenset (by decide) (fun {_ _ s1 _} e1 h => wpAny_pyIter_list (s := s1) ⟨ol, e1, c, n, d⟩ h) (fun A' R tk ha hR => ?_) fun h' tk ⟨m, r1, r2⟩ k => q h' tk m r1 r2 k
    have lt := Heap.lt_size e
    obtain ⟨ne, nin, up⟩ := places (w := w) lt
    refine set_update_ints (s := { s with heap := (s.heap.push (S0 w)).push _, toks := tk }) ((Walks.list (A := A'.in1) (by simpa using ha) _ l ne its).toS) s.heap.objs.size nin xs len hb val (its.size - 0) 0 (by omega) (Nat.zero_le _)
      ⟨⟨_, Heap.get?_push_size _ rfl, rfl, rfl⟩, ⟨ol, lkp e, c, n, d⟩⟩ ⟨0, Nat.le_refl 0, start _⟩ fun s' c' mv r2 r1 => ?_
    obtain ⟨es, k⟩ := moved_end rfl up (fun b o z => lkp z) mv
    rw [es]
    exact hR _ _ ⟨c', r1, by omega⟩ k
  · refine set_call (Res := fun h' => ∃ c, SetR w h' s.heap.objs.size (fun j => decide (j ∈ xs)) c ∧ c ≤ xs.length) hh e c F.sub_tuple_set F.sub_tuple_frozenset (by decide) (fun {_ _ s1 _} e1 h => wpAny_pyIter_tuple (s := s1) ⟨ol, e1, c, n, d⟩ h) (fun A' R tk ha hR => ?_) fun h' tk ⟨m, r1, r2⟩ k => q h' tk m r1 r2 k
    have lt := Heap.lt_size e
    obtain ⟨ne, nin, up⟩ := places (w := w) lt
    refine set_update_ints (s := { s with heap := (s.heap.push (S0 w)).push _, toks := tk }) ((Walks.tuple (A := A'.in1) (by simpa using ha) _ l ne its).toS) s.heap.objs.size nin xs len hb val (its.size - 0) 0 (by omega) (Nat.zero_le _)
      ⟨⟨_, Heap.get?_push_size _ rfl, rfl, rfl⟩, ⟨ol, lkp e, c, n, d⟩⟩ ⟨0, Nat.le_refl 0, start _⟩ fun s' c' mv r2 r1 => ?_
    obtain ⟨es, k⟩ := moved_end rfl up (fun b o z => lkp z) mv
    rw [es]
    exact hR _ _ ⟨c', r1, by omega⟩ k
end
end St

namespace St
open PySem PySem.Spec PyProof.Rows L2 PySem.Froz
/-- the set of the texts m -/
def SetT (P : Program) (w : World) (a : Addr) (m : List Str) : HO := .ext fun h => TS P w h a m
theorem setT_new {P : Program} {w : World} {H : Hp} {h : Heap} {a : Addr} {m : List Str} (R : TS P w h a m) : ObjOk P w H h a (SetT P w a m) := by
  have ⟨D, e, _⟩ := R
  exact ⟨R, ⟨_, e⟩, fun h1 h2 p k => TS.at p k⟩
section
variable {X : Cx}
/-- what a list or a tuple holds -/
def SqX (K : PySem.W.Frag) (H : Hp) (a : Addr) (xs : List V) : Prop := SqL K H a xs ∨ SqT K H a xs
theorem inv_any {pins : List (Addr × Obj)} {σ : L2.St} {H : Hp} {s : Shared} {a : Addr} {xs : List V} (I : Inv X pins σ H s) (h : SqX X.K H a xs) : ∃ its : List Value, Vals xs its ∧ (s.heap.IsList a its.toArray ∨ s.heap.IsTuple a its.toArray) := by
  rcases h with h | h
  · obtain ⟨its, r, l, _⟩ := I.list h
    exact ⟨its, r, .inl l.isList⟩
  · obtain ⟨its, r, l, _⟩ := I.tuple h
    exact ⟨its, r, .inr l⟩
def rSetT (K : PySem.W.Frag) (P : Program) (w : World) : List V → Hp → VK → Prop := fun xs H Q => ∃ (l : Addr) (ns : List Str), xs = [.ref l] ∧ SqX K H l (ns.map V.str) ∧ ns.length ≤ 1000 ∧
  ∀ a m, H a = none → m.Nodup → m.length ≤ ns.length → (∀ x, x ∈ m ↔ x ∈ ns) → Q (.ref a) (upd H a (SetT P w a m))
theorem cr_setT (hc : X.calm = true) : CallR X (.type "set") (rSetT X.K X.prog X.w) := by
  intro pins s σ H xs us Q I r h
  obtain ⟨l, ns, rfl, hl, hb, q⟩ := h
  rw [Vals.ref1 r]
  obtain ⟨its, rv, hi⟩ := inv_any I hl
  refine set_texts (xs := ns) (I.ok.hd hc) hi (by simpa using rv.strs) (Nat.lt_of_le_of_lt (Nat.succ_le_succ hb) (by decide)) fun h' tk m R ml mm k => ?_
  obtain ⟨D, e, F, a3, a4, nd⟩ := id R
  exact ⟨.ref s.heap.objs.size, _, I.laid (t' := tk) k (Nat.le_refl _) (setT_new R), rfl, q _ m (I.hok.fresh (Nat.le_refl _)) nd ml mm⟩
def rSetI (K : PySem.W.Frag) (w : World) : List V → Hp → VK → Prop := fun xs H Q => ∃ (l : Addr) (ns : List Int), xs = [.ref l] ∧ SqX K H l (ns.map V.int) ∧ ns.length ≤ 1000 ∧
  ∀ a c, H a = none → c ≤ ns.length → Q (.ref a) (upd H a (SetO w a (fun j => decide (j ∈ ns)) c))
theorem cr_setI (hc : X.calm = true) : CallR X (.type "set") (rSetI X.K X.w) := by
  intro pins s σ H xs us Q I r h
  obtain ⟨l, ns, rfl, hl, hb, q⟩ := h
  rw [Vals.ref1 r]
  obtain ⟨its, rv, hi⟩ := inv_any I hl
  refine set_ints (xs := ns) (I.ok.hd hc) hi (by simpa using ints_of_vals rv) (Nat.lt_of_le_of_lt (Nat.succ_le_succ hb) (by decide)) fun h' tk c R cl k => ?_
  exact ⟨.ref s.heap.objs.size, _, I.laid (t' := tk) k (Nat.le_refl _) (setO_new R), rfl, q _ c (I.hok.fresh (Nat.le_refl _)) cl⟩
/-- sorted of a set of texts -/
def rSortT (P : Program) (w : World) : List V → Hp → VK → Prop := fun xs H Q => ∃ (a : Addr) (m : List Str), xs = [.ref a] ∧ H a = some (SetT P w a m) ∧ m.length ≤ 1000 ∧
  ∀ ys p, ys.Perm m → sortedS ys = true → H p = none → Q (.ref p) (upd H p (.lst (ys.map V.str)))
theorem strs_of : ∀ l : List Value, (∀ v ∈ l, ∃ x t, v = Value.str x t) → ∃ xs, StrsAre l xs
  | [], _ => ⟨[], .nil⟩
  | v :: l, h => by
    obtain ⟨x, t, rfl⟩ := h v List.mem_cons_self
    obtain ⟨xs, r⟩ := strs_of l fun u hu => h u (List.mem_cons_of_mem _ hu)
    exact ⟨x :: xs, .cons x t r⟩
theorem strs_vals : ∀ {l : List Value} {xs : List Str}, StrsAre l xs → ∀ x, x ∈ xs ↔ ∃ t, Value.str x t ∈ l
  | _, _, .nil => fun x => by simp
  | _, _, .cons y t r => fun x => by
    rw [List.mem_cons, strs_vals r x]
    constructor
    · rintro (rfl | ⟨u, hu⟩)
      · exact ⟨t, List.mem_cons_self⟩
      · exact ⟨u, List.mem_cons_of_mem _ hu⟩
    · rintro ⟨u, hu⟩
      rcases List.mem_cons.mp hu with z | z
      · cases z; exact .inl rfl
      · exact .inr ⟨u, z⟩
theorem perm_of : ∀ {b a : List Str}, b.Nodup → a.length = b.length → (∀ x, x ∈ b → x ∈ a) → a.Perm b
  | [], a, _, hl, _ => by
    obtain rfl : a = [] := List.length_eq_zero_iff.mp hl
    exact .refl _
  | x :: b, a, nd, hl, h => by
    obtain ⟨n1, n2⟩ := List.nodup_cons.mp nd
    have hx : x ∈ a := h x List.mem_cons_self
    have pe := List.perm_cons_erase hx
    refine pe.trans (.cons x (perm_of n2 ?_ fun y hy => ?_))
    · have := pe.length_eq
      rw [List.length_cons] at this hl
      omega
    · have ne : y ≠ x := fun z => n1 (z ▸ hy)
      exact (List.mem_erase_of_ne ne).mpr (h y (List.mem_cons_of_mem _ hy))
theorem cr_sortT (hc : X.calm = true) : CallR X (.builtin "sorted") (rSortT X.prog X.w) := by
  intro pins s σ H xs us Q I r h
  obtain ⟨a, m, rfl, ha, hb, q⟩ := h
  rw [Vals.ref1 r]
  obtain ⟨⟨es, ep, t⟩, e, F, ris, led, nd⟩ := id (show TS X.prog X.w s.heap a m from (I.hok a _ ha).1)
  have sz : es.size = m.length := F.sz
  have room : es.size < scanBound := by rw [sz]; exact Nat.lt_of_le_of_lt hb (by decide)
  refine Calls.call_function_entry kind_sorted plain_sorted entry_sorted (args_sorted1 _) ?_; unfold Builtin.«sorted»
  refine wpAny_bind (m := checkCount "sorted" 1 1 _) (wpAny_pure (wpAny_bind (collect_set (A := X.A.in1) (I.ok.hd hc) ⟨_, e, rfl, rfl⟩ F.fit room ris led fun s1 vs k1 z1 g1 o1 pm => ?_)))
  have vl : vs.length = m.length := by rw [pm.length_eq, List.length_map, Array.length_toList, sz]
  obtain ⟨ss, hS⟩ := strs_of vs fun v hv => by
    obtain ⟨x, hx, rfl⟩ := List.mem_map.mp (pm.mem_iff.mp hv)
    obtain ⟨⟨k, hk, _⟩, _⟩ := F.el x hx
    obtain ⟨u, hu⟩ := Value.isStrOf_shape (show Value.isStrOf k x.2 = true from hk)
    exact ⟨k, u, hu⟩
  have sm : ss.Perm m := perm_of nd (by rw [← hS.len_eq, vl]) fun x hx => by
    obtain ⟨y, hy, hk⟩ := (F.mem x).mp hx
    obtain ⟨u, hu⟩ := Value.isStrOf_shape (show Value.isStrOf x y.2 = true from hk)
    exact (strs_vals hS x).mpr ⟨u, hu ▸ pm.mem_iff.mpr (List.mem_map.mpr ⟨y, hy, rfl⟩)⟩
  have line : vs.length ≤ sizeLine := by rw [vl, sizeLine_eq]; omega
  refine wpAny_bind (wpAny_newList ?_ line)
  have hoL : (s1.heap.push (seqObj "list" vs.toArray 0)).get? s1.heap.objs.size = some (seqObj "list" vs.toArray 0) := Heap.get?_push_size _ rfl
  refine wpAny_bind (wpAny_holding (wpAny_call_entry PyProof.Rows.slot_list_sort ⟨_, hoL, rfl⟩ PyProof.Rows.entry_list_sort (list_sort_treeKAny strKind_oneLt hoL hS.keysOf (fun v1 v2 rest z => keyKind_strs (by rw [← z]; exact hS)) line fun st hp hs => ⟨_, rfl, ?_⟩) (PyProof.Rows.args_list_sort _)))
  obtain ⟨ys, y1, y2, y3⟩ := sorted_out_str hS hp hs
  obtain ⟨c, hcx⟩ := sortedHeap_at (vs := vs) (out := (arrOf st).map (·.2)) hoL
  have old : ∀ b u, s.heap.get? b = some u → (sortedHeap (s1.heap.push (seqObj "list" vs.toArray 0)) s1.heap.objs.size vs ((arrOf st).map (·.2))).get? b = some u := fun b u eb => by
    have q1 := k1 b u eb
    rw [sortedHeap_old (Nat.ne_of_lt (Heap.lt_size q1)) (by rw [size_push']; exact Nat.lt_succ_of_lt (Heap.lt_size q1))]
    exact Heap.get?_push_of_some _ q1
  have zl : (ys.map V.str).length ≤ sizeLine := by rw [List.length_map, (y2.trans sm).length_eq, sizeLine_eq]; omega
  have hn : H s1.heap.objs.size = none := I.hok.fresh z1
  have J : Inv X pins σ (upd H s1.heap.objs.size (.lst (ys.map V.str))) { s with heap := sortedHeap (s1.heap.push (seqObj "list" vs.toArray 0)) s1.heap.objs.size vs ((arrOf st).map (·.2)), gens := s1.gens, drawn := s1.drawn, toks := s1.toks } :=
    I.call (ch := []) (Un.laid old z1 hn) (I.hok.laid old z1 ⟨zl, ((arrOf st).map (·.2)).toList, c, vals_of_strs y1, hcx⟩) (by rw [g1]; exact I.bare) (fun _ z => nomatch z)
  refine wpAny_pure ⟨_, rfl, .ref s1.heap.objs.size, _, ?_, rfl, q ys _ (y2.trans sm) y3 hn⟩
  cases s1; cases s; dsimp only at o1; subst o1
  exact J
end
end St

namespace St
open PySem PySem.Spec PyProof.Rows L2 PySem.Froz
/-! ### lots: what sorted(set(..)) is -/
def sLt (a b : Str) : Prop := a.cps.toList < b.cps.toList
instance (a b : Str) : Decidable (sLt a b) := inferInstanceAs (Decidable (_ < _))
theorem sLt_irr (a : Str) : ¬ sLt a a := List.lt_irrefl _
theorem sLt_tr {a b c : Str} (h : sLt a b) (k : sLt b c) : sLt a c := List.lt_trans h k
theorem sLt_as {a b : Str} (h : sLt a b) : ¬ sLt b a := fun k => sLt_irr a (sLt_tr h k)
theorem sLt_eq {a b : Str} (h : ¬ sLt a b) (k : ¬ sLt b a) : a = b := by
  have e : a.cps.toList = b.cps.toList := List.le_antisymm (List.not_lt.mp k) (List.not_lt.mp h)
  cases a; cases b
  exact congrArg Str.mk (Array.toList_inj.mp e)
section
variable {α : Type} (lt : α → α → Prop) [DecidableRel lt] [DecidableEq α]
def ins (x : α) : List α → List α
  | [] => [x]
  | y :: r => if x = y then y :: r else if lt x y then x :: y :: r else y :: ins x r
def lotBy : List α → List α
  | [] => []
  | x :: r => ins lt x (lotBy r)
theorem mem_ins {x y : α} : ∀ {l : List α}, y ∈ ins lt x l ↔ y = x ∨ y ∈ l
  | [] => by simp [ins]
  | z :: r => by
    unfold ins
    split
    · rename_i h; subst h; simp
    · split
      · simp
      · rw [List.mem_cons, mem_ins (l := r), List.mem_cons]
        exact ⟨fun h => h.elim (fun h => .inr (.inl h)) fun h => h.elim .inl fun h => .inr (.inr h), fun h => h.elim (fun h => .inr (.inl h)) fun h => h.elim .inl fun h => .inr (.inr h)⟩
theorem mem_lotBy {y : α} : ∀ {l : List α}, y ∈ lotBy lt l ↔ y ∈ l
  | [] => Iff.rfl
  | x :: r => by rw [lotBy, mem_ins, mem_lotBy (l := r), List.mem_cons]
theorem asc_ins (tri : ∀ a b, ¬ lt a b → ¬ a = b → lt b a) (tr : ∀ a b c, lt a b → lt b c → lt a c) {x : α} : ∀ {l : List α}, l.Pairwise lt → (ins lt x l).Pairwise lt
  | [], _ => List.pairwise_singleton _ _
  | y :: r, h => by
    obtain ⟨h1, h2⟩ := List.pairwise_cons.mp h
    unfold ins
    split
    · exact h
    · rename_i ne
      split
      · rename_i lxy
        exact List.pairwise_cons.mpr ⟨fun z hz => (List.mem_cons.mp hz).elim (fun e => e ▸ lxy) fun hz => tr _ _ _ lxy (h1 z hz), h⟩
      · rename_i nl
        refine List.pairwise_cons.mpr ⟨fun z hz => ?_, asc_ins tri tr h2⟩
        rcases (mem_ins lt).mp hz with rfl | hz
        · exact tri _ _ nl ne
        · exact h1 z hz
theorem asc_lotBy (tri : ∀ a b, ¬ lt a b → ¬ a = b → lt b a) (tr : ∀ a b c, lt a b → lt b c → lt a c) : ∀ l : List α, (lotBy lt l).Pairwise lt
  | [] => .nil
  | x :: r => asc_ins lt tri tr (asc_lotBy tri tr r)
theorem len_ins (x : α) : ∀ l : List α, (ins lt x l).length ≤ l.length + 1
  | [] => Nat.le_refl _
  | y :: r => by
    unfold ins
    split
    · exact Nat.le_succ _
    · split
      · exact Nat.le_refl _
      · exact Nat.succ_le_succ (len_ins x r)
theorem len_lotBy : ∀ l : List α, (lotBy lt l).length ≤ l.length
  | [] => Nat.le_refl _
  | x :: r => Nat.le_trans (len_ins lt x _) (Nat.succ_le_succ (len_lotBy r))
theorem asc_eq (irr : ∀ a, ¬ lt a a) (tr : ∀ a b c, lt a b → lt b c → lt a c) : ∀ {l m : List α}, l.Pairwise lt → m.Pairwise lt → (∀ x, x ∈ l ↔ x ∈ m) → l = m
  | [], [], _, _, _ => rfl
  | [], y :: m, _, _, h => absurd ((h y).mpr List.mem_cons_self) (by simp)
  | x :: l, [], _, _, h => absurd ((h x).mp List.mem_cons_self) (by simp)
  | x :: l, y :: m, hl, hm, h => by
    obtain ⟨l1, l2⟩ := List.pairwise_cons.mp hl
    obtain ⟨m1, m2⟩ := List.pairwise_cons.mp hm
    have e : x = y := by
      rcases List.mem_cons.mp ((h x).mp List.mem_cons_self) with z | z
      · exact z
      · rcases List.mem_cons.mp ((h y).mpr List.mem_cons_self) with u | u
        · exact u.symm
        · exact absurd (tr _ _ _ (m1 x z) (l1 y u)) (irr _)
    subst e
    rw [asc_eq irr tr l2 m2 fun z => ?_]
    constructor
    · intro hz
      rcases List.mem_cons.mp ((h z).mp (List.mem_cons_of_mem _ hz)) with e | e
      · subst e; exact absurd (l1 z hz) (irr z)
      · exact e
    · intro hz
      rcases List.mem_cons.mp ((h z).mpr (List.mem_cons_of_mem _ hz)) with e | e
      · subst e; exact absurd (m1 z hz) (irr z)
      · exact e
end
/-- the lot of texts, of ints -/
def lotS (l : List Str) : List Str := lotBy sLt l
def lotI (l : List Int) : List Int := lotBy (· < ·) l
theorem mem_lotS {x : Str} {l : List Str} : x ∈ lotS l ↔ x ∈ l := mem_lotBy _
theorem mem_lotI {x : Int} {l : List Int} : x ∈ lotI l ↔ x ∈ l := mem_lotBy _
theorem asc_lotS (l : List Str) : (lotS l).Pairwise sLt := asc_lotBy _ (fun a b h k => Decidable.byContradiction fun z => k (sLt_eq h z)) (fun _ _ _ => sLt_tr) l
theorem asc_lotI (l : List Int) : (lotI l).Pairwise (· < ·) := asc_lotBy _ (fun a b h k => (Int.lt_trichotomy a b).elim (absurd · h) fun z => z.elim (absurd · k) id) (fun _ _ _ => Int.lt_trans) l
theorem len_lotS (l : List Str) : (lotS l).length ≤ l.length := len_lotBy _ l
theorem len_lotI (l : List Int) : (lotI l).length ≤ l.length := len_lotBy _ l
theorem lotS_eq {ys l : List Str} (h : ys.Pairwise sLt) (m : ∀ x, x ∈ ys ↔ x ∈ l) : ys = lotS l := asc_eq sLt sLt_irr (fun _ _ _ => sLt_tr) h (asc_lotS l) fun x => (m x).trans mem_lotS.symm
theorem lotI_eq {ys l : List Int} (h : ys.Pairwise (· < ·)) (m : ∀ x, x ∈ ys ↔ x ∈ l) : ys = lotI l := asc_eq (· < ·) (fun _ => Int.lt_irrefl _) (fun _ _ _ => Int.lt_trans) h (asc_lotI l) fun x => (m x).trans mem_lotI.symm
theorem lotS_congr {l m : List Str} (h : ∀ x, x ∈ l ↔ x ∈ m) : lotS l = lotS m := lotS_eq (asc_lotS l) fun x => mem_lotS.trans (h x)
theorem lotI_congr {l m : List Int} (h : ∀ x, x ∈ l ↔ x ∈ m) : lotI l = lotI m := lotI_eq (asc_lotI l) fun x => mem_lotI.trans (h x)
theorem lotS_idem (l : List Str) : lotS (lotS l) = lotS l := lotS_congr fun _ => mem_lotS
theorem asc_nodupS {l : List Str} (h : l.Pairwise sLt) : l.Nodup := List.Pairwise.imp (S := (· ≠ ·)) (fun {a b} (k : sLt a b) (z : a = b) => sLt_irr b (z ▸ k)) h
theorem ris_asc : ∀ {l : List Str} {p : Str}, risingS p l = true → (p :: l).Nodup → (p :: l).Pairwise sLt
  | [], p, _, _ => List.pairwise_singleton _ _
  | x :: r, p, h, nd => by
    obtain ⟨h1, h2⟩ := Bool.and_eq_true_iff.mp (show (!ltCps x.cps.toList p.cps.toList && risingS x r) = true from h)
    obtain ⟨n1, n2⟩ := List.nodup_cons.mp nd
    have a := ris_asc h2 n2
    rw [ltCps_eq, Bool.not_eq_true'] at h1
    have nl : ¬ sLt x p := of_decide_eq_false h1
    have lp : sLt p x := Decidable.byContradiction fun z => n1 (by rw [sLt_eq z nl]; exact List.mem_cons_self)
    exact List.pairwise_cons.mpr ⟨fun z hz => (List.mem_cons.mp hz).elim (fun e => e ▸ lp) fun hz => sLt_tr lp ((List.pairwise_cons.mp a).1 z hz), a⟩
theorem sorted_asc {l : List Str} (h : sortedS l = true) (nd : l.Nodup) : l.Pairwise sLt := match l, h, nd with
  | [], _, _ => .nil
  | _ :: _, h, nd => ris_asc h nd
/-! ### the rules of tuple(sorted(set(x))) -/
section
variable {X : Cx}
theorem cr_or {f : Value} {r1 r2 : List V → Hp → VK → Prop} (a : CallR X f r1) (b : CallR X f r2) : CallR X f (fun xs H Q => r1 xs H Q ∨ r2 xs H Q) := fun pins s σ H xs us Q I r h => h.elim (a pins s σ H xs us Q I r) (b pins s σ H xs us Q I r)
@[irreducible] def rSet (K : PySem.W.Frag) (P : Program) (w : World) : List V → Hp → VK → Prop := fun xs H Q => rSetT K P w xs H Q ∨ rSetI K w xs H Q
@[irreducible] def rSorted2 (P : Program) (w : World) : List V → Hp → VK → Prop := fun xs H Q => rSortT P w xs H Q ∨ rSortedSet w xs H Q
theorem cr_set (hc : X.calm = true) : CallR X (.type "set") (rSet X.K X.prog X.w) := by unfold rSet; exact cr_or (cr_setT hc) (cr_setI hc)
theorem cr_sorted2 (hc : X.calm = true) : CallR X (.builtin "sorted") (rSorted2 X.prog X.w) := by unfold rSorted2; exact cr_or (cr_sortT hc) (cr_sortedSet hc)
end
/-- the reading of tuple(sorted(set(x))) -/
theorem rd_lotS {K : PySem.W.Frag} {P : Program} {w : World} {H : Hp} {a : Addr} {ns : List Str} {Q : VK} (h : SqX K H a (ns.map V.str)) (hl : ns.length ≤ 1000) (q : ∀ p H', Same H H' → H' p = some (.tup ((lotS ns).map V.str)) → Q (.ref p) H') :
    rSet K P w [.ref a] H fun u H1 => rSorted2 P w [u] H1 fun z H2 => ∃ p ys, [z] = [V.ref p] ∧ ((SqL K H2 p ys ∧ ∀ l, H2 l = none → Q (.ref l) (upd H2 l (.tup ys))) ∨ (SqT K H2 p ys ∧ Q (.ref p) H2)) := by
  unfold rSet
  refine .inl ⟨a, ns, rfl, h, hl, fun b m hb nd ml mm => ?_⟩
  unfold rSorted2
  refine .inl ⟨b, m, rfl, upd_same, Nat.le_trans ml hl, fun ys p pm so hp => ⟨p, ys.map V.str, rfl, .inl ⟨SqL.of upd_same, fun l hn => ?_⟩⟩⟩
  have e : ys = lotS ns := lotS_eq (sorted_asc so (pm.nodup_iff.mpr nd)) fun x => pm.mem_iff.trans (mm x)
  rw [e] at hn ⊢
  have s1 : Same H (upd H b (SetT P w b m)) := fun c o e => by rw [upd_ne (ne_of_none e hb)]; exact e
  have s2 : Same (upd H b (SetT P w b m)) (upd (upd H b (SetT P w b m)) p (.lst ((lotS ns).map V.str))) := fun c o e => by rw [upd_ne (ne_of_none e hp)]; exact e
  have s3 : Same (upd (upd H b (SetT P w b m)) p (.lst ((lotS ns).map V.str))) (upd (upd (upd H b (SetT P w b m)) p (.lst ((lotS ns).map V.str))) l (.tup ((lotS ns).map V.str))) := fun c o e => by rw [upd_ne (ne_of_none e hn)]; exact e
  exact q l _ (fun c o e => s3 c o (s2 c o (s1 c o e))) upd_same
theorem rd_lotI {K : PySem.W.Frag} {P : Program} {w : World} {H : Hp} {a : Addr} {ns : List Int} {Q : VK} (h : SqX K H a (ns.map V.int)) (hl : ns.length < 64) (q : ∀ p H', Same H H' → H' p = some (.tup ((lotI ns).map V.int)) → Q (.ref p) H') :
    rSet K P w [.ref a] H fun u H1 => rSorted2 P w [u] H1 fun z H2 => ∃ p ys, [z] = [V.ref p] ∧ ((SqL K H2 p ys ∧ ∀ l, H2 l = none → Q (.ref l) (upd H2 l (.tup ys))) ∨ (SqT K H2 p ys ∧ Q (.ref p) H2)) := by
  unfold rSet
  refine .inr ⟨a, ns, rfl, h, Nat.le_trans (Nat.le_of_lt hl) (by decide), fun b c hb cl => ?_⟩
  unfold rSorted2
  refine .inr ⟨b, _, c, rfl, upd_same, Nat.lt_of_le_of_lt cl hl, fun ys p so mm _ hp => ⟨p, ys.map V.int, rfl, .inl ⟨SqL.of upd_same, fun l hn => ?_⟩⟩⟩
  have e : ys = lotI ns := lotI_eq so fun x => (mm x).trans decide_eq_true_iff
  rw [e] at hn ⊢
  have s1 : Same H (upd H b (SetO w b (fun j => decide (j ∈ ns)) c)) := fun d o e => by rw [upd_ne (ne_of_none e hb)]; exact e
  refine q l _ (fun d o e => ?_) upd_same
  have e1 := s1 d o e
  rw [upd_ne (ne_of_none (by rw [upd_ne (ne_of_none e1 hp)]; exact e1) hn), upd_ne (ne_of_none e1 hp)]
  exact e1
end St

/-! own classes of the text: made, their methods, their == -/
namespace Ow
open PySem PySem.Spec PyProof.Rows L2 Hb
/-- a class of the text, made by its __init__'s promise -/
structure Cm (P : Program) (w : World) (K : PySem.W.Frag) (mg : Str → Option Value) (base : Heap) (x : Str) (C : Addr) (ps : List Str) (lv : Nat) (sp : Sp) : Prop where
  ex : ∃ (f : Addr) (fd : FuncData), Mk K C f ∧ FnOk P w K mg base CX0 lv f fd ps sp ∧ mg x = some (.ref C) ∧ Binds K fd ps []
/-- a class made by keywords alone: its parameters behind self in the order of gV -/
structure CmK (P : Program) (w : World) (K : PySem.W.Frag) (mg : Str → Option Value) (base : Heap) (x : Str) (C : Addr) (ps ks : List Str) (gV : List V → List V → List V) (lv : Nat) (sp : Sp) : Prop where
  ex : ∃ (f : Addr) (fd : FuncData) (g : List Value → List Value → List Value), Mk K C f ∧ FnOk P w K mg base CX0 lv f fd ps sp ∧ mg x = some (.ref C) ∧ KBn K fd ps 1 ks g gV
/-- a method of an own class -/
structure Ch (P : Program) (w : World) (K : PySem.W.Frag) (mg : Str → Option Value) (base : Heap) (C : Addr) (m : Str) (ps : List Str) (dvs : List V) (lv : Nat) (sp : Sp) : Prop where
  ex : ∃ (f : Addr) (fd : FuncData) (ds : List Value), Meth K C m f ∧ FnOk P w K mg base CX0 lv f fd ps sp ∧ Binds K fd ps ds ∧ Vals dvs ds
structure ChK (P : Program) (w : World) (K : PySem.W.Frag) (mg : Str → Option Value) (base : Heap) (C : Addr) (m : Str) (ps ks : List Str) (gV : List V → List V → List V) (lv : Nat) (sp : Sp) : Prop where
  ex : ∃ (f : Addr) (fd : FuncData) (g : List Value → List Value → List Value), Meth K C m f ∧ FnOk P w K mg base CX0 lv f fd ps sp ∧ KBn K fd ps 1 ks g gV
section
variable {X : Cx} {C : Addr} {ps ks : List Str} {gV : List V → List V → List V} {dvs : List V} {lv : Nat} {sp : Sp} {x m : Str} {p pos apos : Pos} {e o : Expr} {es : List Expr} {kws : List Keyword} {t tk : TA} {ta : TE}
theorem pe_new (M : Cm X.prog X.w X.K X.mg X.base x C ps lv sp) (hr : Room (lv + 1) X.A) (hg : Gl X x) (ha : PA X (e :: es) t) (hdb : (x == ("__debug__" : Str)) = false := by decide)
    (he : starEach (e :: es) X.env = (false, eval e X.env) :: starEach es X.env := by rfl) (hpl : (backTo pos (starEach es X.env)).any (·.1) = false := by rfl) : PE X (.Call (.Name x p) (e :: es) [] pos) (tMake C sp [] E0 t) := by
  obtain ⟨f, fd, mk, F, hm, hb⟩ := M.ex
  exact pe_make mk F hr hg hm hb .nil pass0 ha hdb he hpl
theorem pe_newK (M : CmK X.prog X.w X.K X.mg X.base x C ps ks gV lv sp) (hr : Room (lv + 1) X.A) (hg : Gl X x) (hkw : PK X kws tk)
    (hall : (backToKw pos (keywordEach kws X.env)).all (·.1.isSome) = true := by rfl) (hks : (backToKw pos (keywordEach kws X.env)).filterMap (·.1) = ks := by rfl) (hdb : (x == ("__debug__" : Str)) = false := by decide)
    (hpl : ((backTo pos (starEach [] X.env)).any (·.1) || (backToKw pos (keywordEach kws X.env)).any (·.1.isNone)) = false := by rfl) : PE X (.Call (.Name x p) [] kws pos) (tMakeK C 0 ks.length sp gV E0 tNil tk) := by
  obtain ⟨f, fd, g, mk, F, hm, hb⟩ := M.ex
  exact pe_makeK0 mk F hr hg hm hb pass0 hkw hall hks hdb hpl
theorem pe_do {pl : Sem Bool} (M : Ch X.prog X.w X.K X.mg X.base C m ps dvs lv sp) (c : Cls X.K C) (hr : Room lv X.A) (ho : PE X o ta) (ha : PA X (e :: es) t)
    (hst : starEach (e :: es) X.env = (false, eval e X.env) :: starEach es X.env := by rfl) (hpl : (backTo pos (starEach es X.env)).any (·.1) = false := by rfl)
    (ht : eval (.Call (.Attribute o m apos) (e :: es) [] pos) X.env = (do
      let v ← eval o X.env
      standAt apos.atName
      let (f, first) ← holding [v] (getMethod v m pl)
      callWith pos f first (backTo pos (starEach (e :: es) X.env)) (backToKw pos (keywordEach [] X.env))) := by rfl) : PE X (.Call (.Attribute o m apos) (e :: es) [] pos) (tMeth C m sp dvs E0 ta t) := by
  obtain ⟨f, fd, ds, hm, F, hb, hd⟩ := M.ex
  exact pe_meth ho c hm F hr hb hd pass0 ha hst hpl ht
theorem pe_do0 {pl : Sem Bool} (M : Ch X.prog X.w X.K X.mg X.base C m ps dvs lv sp) (c : Cls X.K C) (hr : Room lv X.A) (ho : PE X o ta)
    (ht : eval (.Call (.Attribute o m apos) [] [] pos) X.env = (do
      let v ← eval o X.env
      standAt apos.atName
      let (f, first) ← holding [v] (getMethod v m pl)
      callWith pos f first (backTo pos (starEach [] X.env)) (backToKw pos (keywordEach [] X.env))) := by rfl) : PE X (.Call (.Attribute o m apos) [] [] pos) (tMeth C m sp dvs E0 ta tNil) := by
  obtain ⟨f, fd, ds, hm, F, hb, hd⟩ := M.ex
  exact pe_meth0 ho c hm F hr hb hd pass0 ht
/-- o.m(k = v, ..) -/
def tMethK (C : Addr) (m : Str) (n : Nat) (sp : Sp) (gV : List V → List V → List V) (ta : TE) (tk : TA) : TE := fun σ H Q => ta σ H fun x H1 => ∃ a dx fs, x = .ref a ∧ H1 a = some (.ins C dx fs) ∧ fs.lookup m = none ∧ tk σ H1 fun zs H2 => zs.length = n ∧ sp (gV [x] zs) H2 Q E0
theorem pe_doK {pl : Sem Bool} (M : ChK X.prog X.w X.K X.mg X.base C m ps ks gV lv sp) (c : Cls X.K C) (hr : Room lv X.A) (ho : PE X o ta) (hkw : PK X kws tk)
    (hall : (backToKw pos (keywordEach kws X.env)).all (·.1.isSome) = true := by rfl) (hks : (backToKw pos (keywordEach kws X.env)).filterMap (·.1) = ks := by rfl)
    (hpl : ((backTo pos (starEach [] X.env)).any (·.1) || (backToKw pos (keywordEach kws X.env)).any (·.1.isNone)) = false := by rfl)
    (ht : eval (.Call (.Attribute o m apos) [] kws pos) X.env = (do
      let v ← eval o X.env
      standAt apos.atName
      let (f, first) ← holding [v] (getMethod v m pl)
      callWith pos f first (backTo pos (starEach [] X.env)) (backToKw pos (keywordEach kws X.env))) := by rfl) : PE X (.Call (.Attribute o m apos) [] kws pos) (tMethK C m ks.length sp gV ta tk) := by
  obtain ⟨f, fd, g, hm, F, hb⟩ := M.ex
  refine ⟨fun pins s σ H Q I h => ?_⟩
  refine PySem.W.methodCall_KW (pl := pl) (thn (ho.run pins s σ H _ I h) fun u s1 ⟨x, H1, I1, rx, a, dx, fs, ex, ea, l, q⟩ => ?_) ht
  subst ex; obtain rfl : u = Value.ref a := rx
  refine getmeth_ok I1 ea c hm l ?_
  refine PySem.W.callWith_KW0 (first := [.ref a]) (h₀ := X.base) I1.ok.mod.kin hm.kp hall (thn (hkw.run pos pins s1 σ H1 _ I1 q) fun ws s2 ⟨zs, H2, I2, rz, l1, q2⟩ => ⟨I2.kIn, ?_⟩) hpl
  rw [hks]
  exact run_fnN (us := [.ref a]) (vs := [.ref a]) F hr hb pass0 I2 (.cons rfl .nil) rz rfl l1 q2
end
/-! ### == by an own __eq__, whatever it answers -/
def rEqOwn (C : Addr) (sp : Sp) : R2 := fun x y H Q => ∃ a dx fs b, x = .ref a ∧ y = .ref b ∧ H a = some (.ins C dx fs) ∧ ((∃ dy gs, H b = some (.ins C dy gs)) ∨ ∃ xs, H b = some (.lst xs)) ∧ sp [x, y] H (fun v H' => (∃ k, v = .bl k) ∧ Q v H') E0
theorem op_eqOwn {X : Cx} {C : Addr} {ps : List Str} {lv : Nat} {sp : Sp} (M : Ch X.prog X.w X.K X.mg X.base C "__eq__" ps [] lv sp) (kl : PySem.W.subIn X.K (.type "list") (.ref C) = some false) (hr : Room lv X.A) : OpR X (compareOp .Eq) (rEqOwn C sp) := by
  obtain ⟨f, fd, ds, hm, F, hb, hd⟩ := M.ex
  cases hd
  intro pins s σ H x y v u Q I rx ry h
  obtain ⟨a, dx, fs, b, rfl, rfl, ha, hy, q⟩ := h
  cases rx; cases ry
  obtain ⟨mA, J, _⟩ := ins_get I.hok ha
  obtain ⟨od, J, _⟩ := J.look
  obtain ⟨m, hF⟩ := I.fr
  have run : wpAny (model X.prog X.w) X.A (call (.ref f) [.ref a, .ref b]) (PySem.W.CmpBack (EP X pins σ Q)) X.xe s := by
    have hl := F.len _ _ _ _ q
    have bb := hb s [.ref a, .ref b] I.kIn (by simpa using hl)
    refine wpAny_call (codeAny_mono (F.run X.A X.stack s H ⟨[.ref a, .ref b], []⟩ [.ref a, .ref b] [.ref a, .ref b] _ E0 hr I.env0 (by simpa using bb) (.cons rfl (.cons rfl .nil)) q) fun r s' z => ?_)
    rcases r with e | (_ | _ | _ | w)
    · exact pass0 pins σ H s e s' I z
    · exact False.elim z
    · exact False.elim z
    · exact False.elim z
    · obtain ⟨v, H', I', rv, ⟨k, rfl⟩, q'⟩ := I.after z
      obtain rfl : w = Value.bool k := rv
      exact ⟨.bl k, H', I', rfl, q'⟩
  show wpAny (model X.prog X.w) X.A (richCompare .Eq (.ref a) (.ref b)) (EP X pins σ Q) X.xe s
  rcases hy with ⟨dy, gs, hy⟩ | ⟨xs, hy⟩
  · obtain ⟨mB, J', _⟩ := ins_get I.hok hy
    obtain ⟨od', J', _⟩ := J'.look
    exact PySem.W.cmp_K (op := .Eq) (tb := .ref C) hr.units0 hF I.ok.mod.kin J J'.type (by simp [PySem.W.notFirst]) hm.at_ hm.fn run
  · obtain ⟨z, its, n, r, e⟩ := I.hok b _ hy
    exact PySem.W.cmp_K (op := .Eq) (tb := .type "list") hr.units0 hF I.ok.mod.kin J (fun A Q E s' k q => wpAny_typeOf (T := "list") ⟨_, k _ _ e, rfl⟩ q) (by simp [PySem.W.notFirst, kl]) hm.at_ hm.fn run
/-! ### xs[::n], n reckoned as -1 -/
theorem pe_rev {X : Cx} {e st : Expr} {te ts : TE} {p3 pos : Pos} (he : PE X e te) (hs : PE X st ts) (hN : ∀ σ H (Q : VK), Q (.int (-1)) H → ts σ H Q) :
    PE X (.Subscript e (.Slice none none (some st) p3) pos) (fun σ H Q => te σ H fun x H1 => ∃ a xs, x = .ref a ∧ SqL X.K H1 a xs ∧ ∀ p, H1 p = none → Q (.ref p) (upd H1 p (.lst xs.reverse))) := by
  refine ⟨fun pins s σ H Q I h => Subscript_ (thn (he.run pins s σ H _ I h) fun v s1 ⟨x, H1, I1, r1, a, xs, ex, hx, q⟩ => ?_)⟩
  subst ex; cases r1
  refine wpAny_Slice (thn (po_none.run pins s1 σ H1 (fun o H2 => o = none ∧ H2 = H1) I1 ⟨rfl, rfl⟩) fun vl s2 ⟨l, H2, I2, pl, el, e2⟩ => ?_)
  subst el e2
  refine thn (po_none.run pins s2 σ H2 (fun o H3 => o = none ∧ H3 = H2) I2 ⟨rfl, rfl⟩) fun vu s3 ⟨u, H3, I3, pu, eu, e3⟩ => ?_
  subst eu e3
  refine thn ((po_some hs).run pins s3 σ H3 (fun o H4 => o = some (-1) ∧ H4 = H3) I3 (hN σ H3 _ ⟨-1, rfl, rfl, rfl⟩)) fun vs s4 ⟨o, H4, I4, ps, eo, e4⟩ => ?_
  subst eo e4
  have I5 : Inv X pins σ H4 { s4 with heap := s4.heap.push { cls := .type "slice", data := .fields #[vl, vu, vs] } } := I4.kept (t' := s4.toks) fun b ob q => Heap.get?_push_of_some _ q
  obtain ⟨its, r, ht, hz⟩ := I5.list hx
  have hlen := r.length
  show wpAny (model X.prog X.w) X.A (subscriptTail e (.Slice none none (some st) p3) (.ref a) (.ref s4.heap.objs.size)) (EP X pins σ Q) X.xe { s4 with heap := s4.heap.push { cls := .type "slice", data := .fields #[vl, vu, vs] } }
  refine tail_any (ops := [.ref a, .ref s4.heap.objs.size]) ht.isList.typeIs (PySem.slot_list_getitem.lookup) ?_ (by with_unfolding_all rfl)
  refine wpAny_getItem_list_slice ht.isList (Heap.IsSliceOf.new _ vl vu vs) pl pu ps (by decide) ?_ (by rw [List.size_toArray]; omega)
  rw [PySem.W.krv_pick]
  exact ⟨.ref _, _, I5.laid (t' := s4.toks) (o := .lst xs.reverse) (fun b ob q => Heap.get?_push_of_some _ q) (Nat.le_refl _) ⟨by rw [List.length_reverse]; exact hz, _, 0, r.reverse, Heap.get?_push_size _ rfl⟩, rfl, q _ (I5.hok.fresh (Nat.le_refl _))⟩
/-- o.f within a comprehension -/
theorem pe_fldK {X : Cx} {e : Expr} {f : Str} {pos : Pos} {ta : TE} (K : PySem.W.Frag) (he : PE X e ta) (hb : attributeBase e f X.env (eval e X.env) = eval e X.env) (hK : X.K = K := by rfl) : PE X (.Attribute e f pos) (tFld K ta f) := by
  subst hK
  exact pe_fld he hb
end Ow

namespace Ow
open PySem PySem.Spec PyProof.Rows L2 Hb
/-- {k: v}, k a tuple of ints and texts -/
def tDisp1 (tk tv : TE) : TE := fun σ H Q => ∀ p, H p = none → tk σ (upd H p (.dT [])) fun x H1 => tv σ H1 fun y H2 => H2 p = some (.dT []) ∧ ∃ (k : List Key) (b : Addr), x = .ref b ∧ H2 b = some (.tup (k.map kV)) ∧ Q (.ref p) (upd H2 p (.dT [(k, y)]))
theorem pe_disp1T {X : Cx} {k v : Expr} {tk tv : TE} {pos : Pos} (hu : X.A.units + 1 < cLine) (hk : PE X k tk) (hv : PE X v tv) : PE X (.Dict [some k] [v] pos) (tDisp1 tk tv) := by
  refine ⟨fun pins s σ H Q I q => ?_⟩
  have hn := I.hok.fresh (Nat.le_refl s.heap.objs.size)
  have I1 := I.laid (a := s.heap.objs.size) (o := .dT []) (h' := s.heap.push { cls := .type "dict", data := .dict #[] }) (t' := s.toks) (fun _ _ q => Heap.get?_push_of_some _ q) (Nat.le_refl _) (dt_empty s.heap I.big)
  have pr := pairTrees_length [some k] [v] X.env pos rfl rfl
  rw [arm_eval_Dict, zip_pairTrees [some k] [v] X.env pos rfl rfl, dictDisplay_pairs _ (fun z => by rw [z] at pr; cases pr) (by rw [pr]; exact (by decide : (1 : Nat) < 17))]
  refine wpAny_bind (wpAny_standAt (wpAny_bind (wpAny_subDictH (knd := tupleKind (mixKind X.prog X.w)) (Q := fun d s' => wpAny (model X.prog X.w) X.A (pure (Value.ref d)) (EP X pins σ Q) X.xe s') (show X.A.units < cLine by omega) (by rw [pr]; exact (by decide : (1 : Nat) ≤ 15)) ?_)))
  refine thn ((pps_cons hk hv pps_nil).run pins _ σ _ (fun ps H2 => match ps with | [(x, y)] => H2 s.heap.objs.size = some (.dT []) ∧ ∃ (k : List Key) (b : Addr), x = .ref b ∧ H2 b = some (.tup (k.map kV)) ∧ Q (.ref s.heap.objs.size) (upd H2 s.heap.objs.size (.dT [(k, y)])) | _ => False) I1 (q _ hn)) fun ws s2 ⟨ps, H2, I2, rel, q1⟩ => ?_
  match ps, q1 with
  | [(x, y)], q1 => ?_
  obtain ⟨e, kk, b, ex, eb, q2⟩ := q1
  subst ex
  cases rel with
  | @cons _ bb _ _ h t =>
    obtain ⟨b1, b2⟩ := bb
    cases t
    obtain ⟨r1, r2⟩ := h
    cases (show b1 = Value.ref b from r1)
    obtain ⟨z, hd, xs, rel, dd⟩ := dt_of I2.hok e
    cases rel
    refine ⟨[(kk, b, b2)], ⟨rfl, rfl, key_of I2.hok eb, trivial⟩, dd, fun h' tk' dd' hs => wpAny_pure ⟨.ref s.heap.objs.size, _, ?_, rfl, q2⟩⟩
    obtain ⟨qo, es, ep, hq, h2, h3, h4, _, h5⟩ := dd'
    refine d_write I2 (by rw [e]; exact True.intro) hs ⟨qo, hq⟩ ⟨by show 1 ≤ sizeLine; decide, hd, [(kk, b, b2)], .cons ⟨rfl, ?_, r2⟩ .nil, qo, es, ep, hq, h2, h3, h4, h5⟩
    rw [upd_ne (ne_of eb e (fun z => nomatch z))]
    exact eb
end Ow

/-! walks over a list or a tuple alike; comprehensions that keep some items and turn them -/
namespace Sq
open PySem PySem.Spec PyProof.Rows L2 Hb St
/-- what a program changes in place -/
def Mut (o : HO) : Prop := (∃ ys, o = .lst ys) ∨ ∃ k, o = .dT k
/-- all but the lists and dicts is as it was -/
def Fix (H H' : Hp) : Prop := ∀ b o, H b = some o → ¬ Mut o → H' b = some o
theorem Fix.of {H H' : Hp} (s : Same H H') : Fix H H' := fun b o e _ => s b o e
theorem Fix.refl (H : Hp) : Fix H H := fun _ _ e _ => e
theorem Fix.trans {H H1 H2 : Hp} (a : Fix H H1) (b : Fix H1 H2) : Fix H H2 := fun c o e n => b c o (a c o e n) n
theorem Fix.lst {H : Hp} {p : Addr} {xs : List V} {o : HO} (e : H p = some (.lst xs)) : Fix H (upd H p o) := fun b u eb n => by
  rw [upd_ne fun z => n (.inl ⟨xs, by rw [z, e] at eb; exact (Option.some.inj eb).symm⟩)]; exact eb
theorem Fix.dT {H : Hp} {p : Addr} {k : List (List Key × V)} {o : HO} (e : H p = some (.dT k)) : Fix H (upd H p o) := fun b u eb n => by
  rw [upd_ne fun z => n (.inr ⟨k, by rw [z, e] at eb; exact (Option.some.inj eb).symm⟩)]; exact eb
theorem Fix.new {H : Hp} {p : Addr} {o : HO} (e : H p = none) : Fix H (upd H p o) := Fix.of (same_new e o)
theorem Fix.kept {H H' : Hp} {p : Addr} {xs : List V} (e : H p = some (.lst xs)) (k : Kept p H H') : Fix H H' := fun b o eb n => k b o eb fun z => n (.inl ⟨xs, by rw [z, e] at eb; exact (Option.some.inj eb).symm⟩)
theorem tupFix {K : PySem.W.Frag} {H H' : Hp} {a : Addr} {xs : List V} (f : Fix H H') (h : SqT K H a xs) : SqT K H' a xs := by
  rcases h with (e | ⟨o, e⟩) | r
  · exact .inl (.inl (f _ _ e (by rintro (⟨_, z⟩ | ⟨_, z⟩) <;> cases z)))
  · exact .inl (.inr ⟨o, f _ _ e (by rintro (⟨_, z⟩ | ⟨_, z⟩) <;> cases z)⟩)
  · exact .inr r
theorem lstSame {K : PySem.W.Frag} {H H' : Hp} {a : Addr} {xs : List V} (f : Same H H') (h : SqL K H a xs) : SqL K H' a xs := by
  rcases h with (e | ⟨o, e⟩) | r
  · exact .inl (.inl (f _ _ e))
  · exact .inl (.inr ⟨o, f _ _ e⟩)
  · exact .inr r
theorem sqxSame {K : PySem.W.Frag} {H H' : Hp} {a : Addr} {xs : List V} (s : Same H H') (h : SqX K H a xs) : SqX K H' a xs := h.imp (lstSame s) (tupFix (Fix.of s))
theorem SqX.lst {K : PySem.W.Frag} {H : Hp} {a : Addr} {xs : List V} (e : H a = some (.lst xs)) : SqX K H a xs := .inl (SqL.of e)
theorem SqX.tup {K : PySem.W.Frag} {H : Hp} {a : Addr} {xs : List V} (e : H a = some (.tup xs)) : SqX K H a xs := .inr (SqT.of e)
/-- item by item -/
inductive All2 {α β : Type} (R : α → β → Prop) : List α → List β → Prop where
  | nil : All2 R [] []
  | cons {a b as bs} : R a b → All2 R as bs → All2 R (a :: as) (b :: bs)
namespace All2
variable {α β : Type} {R S : α → β → Prop}
theorem len : ∀ {as : List α} {bs : List β}, All2 R as bs → as.length = bs.length
  | _, _, .nil => rfl
  | _, _, .cons _ t => congrArg (· + 1) t.len
theorem imp (f : ∀ a b, R a b → S a b) : ∀ {as : List α} {bs : List β}, All2 R as bs → All2 S as bs
  | _, _, .nil => .nil
  | _, _, .cons h t => .cons (f _ _ h) (imp f t)
theorem app : ∀ {as as' : List α} {bs bs' : List β}, All2 R as bs → All2 R as' bs' → All2 R (as ++ as') (bs ++ bs')
  | _, _, _, _, .nil, h => h
  | _, _, _, _, .cons h t, k => .cons h (app t k)
theorem get : ∀ {as : List α} {bs : List β}, All2 R as bs → ∀ {i : Nat} {a : α}, as[i]? = some a → ∃ b, bs[i]? = some b ∧ R a b
  | _, _, .cons h t, 0, a, e => ⟨_, rfl, by cases e; exact h⟩
  | _, _, .cons h t, i + 1, a, e => t.get (i := i) e
theorem getR : ∀ {as : List α} {bs : List β}, All2 R as bs → ∀ {i : Nat} {b : β}, bs[i]? = some b → ∃ a, as[i]? = some a ∧ R a b
  | _, _, .cons h t, 0, a, e => ⟨_, rfl, by cases e; exact h⟩
  | _, _, .cons h t, i + 1, a, e => t.getR (i := i) e
theorem map_eq {f : β → α} (h : ∀ a b, R a b → a = f b) : ∀ {as : List α} {bs : List β}, All2 R as bs → as = bs.map f
  | _, _, .nil => rfl
  | _, _, .cons r t => by rw [List.map_cons, h _ _ r, map_eq h t]
theorem of_map {f : β → α} (h : ∀ b, R (f b) b) : ∀ bs : List β, All2 R (bs.map f) bs
  | [] => .nil
  | b :: bs => .cons (h b) (of_map h bs)
theorem drop : ∀ {as : List α} {bs : List β} (n : Nat), All2 R as bs → All2 R (as.drop n) (bs.drop n)
  | _, _, 0, h => h
  | _, _, n + 1, .nil => .nil
  | _, _, n + 1, .cons _ t => drop n t
theorem take : ∀ {as : List α} {bs : List β} (n : Nat), All2 R as bs → All2 R (as.take n) (bs.take n)
  | _, _, 0, h => .nil
  | _, _, n + 1, .nil => .nil
  | _, _, n + 1, .cons h t => .cons h (take n t)
end All2
/-- a walk J over the items xs of the object at a; S: it stands -/
structure Wk (J : It) (a : Addr) (S : Hp → Prop) (xs : List V) : Prop where
  go : ∀ i H, i < xs.length → S H → J.go i H
  stop : ∀ H, S H → J.stop xs.length H
  yld : ∀ i H v H', i < xs.length → S H → J.yld i H v H' → H' = H ∧ xs[i]? = some v
  keep : ∀ {H H' : Hp}, (∀ o, H a = some o → H' a = some o) → S H → S H'
theorem wk_list {K : PySem.W.Frag} {a : Addr} {xs : List V} : Wk (Itl K a) a (fun H => SqL K H a xs) xs where
  go := fun i H hi s => ⟨xs, xs[i], s, List.getElem?_eq_getElem hi⟩
  stop := fun H s => ⟨xs, s, Nat.le_refl _⟩
  yld := fun i H v H' _ s y => ⟨y.1, y.2 xs s⟩
  keep := fun k s => by
    rcases s with (e | ⟨o, e⟩) | r
    · exact .inl (.inl (k _ e))
    · exact .inl (.inr ⟨o, k _ e⟩)
    · exact .inr r
theorem wk_tup {K : PySem.W.Frag} {a : Addr} {xs : List V} : Wk (Itt K a) a (fun H => SqT K H a xs) xs where
  go := fun i H hi s => ⟨xs, xs[i], s, List.getElem?_eq_getElem hi⟩
  stop := fun H s => ⟨xs, s, Nat.le_refl _⟩
  yld := fun i H v H' _ s y => ⟨y.1, y.2 xs s⟩
  keep := fun k s => by
    rcases s with (e | ⟨o, e⟩) | r
    · exact .inl (.inl (k _ e))
    · exact .inl (.inr ⟨o, k _ e⟩)
    · exact .inr r
def iSeq (K : PySem.W.Frag) (tl : TE) : TI := fun σ H R => tl σ H fun x H1 => ∃ a xs, x = .ref a ∧ SqX K H1 a xs ∧ ∀ (J : It) (S : Hp → Prop), Wk J a S xs → S H1 → R J H1
theorem pi_seq {X : Cx} {tg l : Expr} {tl : TE} (hl : PE X l tl) : PI X tg l (iSeq X.K tl) := by
  refine ⟨fun pins s σ H R I h => ?_⟩
  have both : PI X tg l (fun σ H R => iList X.K tl σ H R ∨ iTup X.K tl σ H R) := ⟨fun pins s σ H R I h => h.elim ((pi_list hl).run pins s σ H R I) ((pi_tup hl).run pins s σ H R I)⟩
  refine thn (hl.run pins s σ H _ I h) fun v s1 ⟨x, H1, I1, r1, a, xs, ex, hx, q⟩ => ?_
  subst ex; cases r1
  rcases hx with hx | hx
  · obtain ⟨its, rv, p, hz⟩ := I1.list hx
    refine wpAny_pyIter_list p.isList ⟨s1.heap.objs.size, [s1.heap.objs.size], _, _, H1, rfl, I1.kept (t' := s1.toks) fun b o e => Heap.get?_push_of_some _ e, turn_list a _, ⟨_, Heap.get?_push_size _ rfl, rfl, rfl⟩, fun b hb => ?_, q _ _ wk_list hx⟩
    obtain rfl : b = s1.heap.objs.size := by simpa using hb
    exact I1.fpOk (Nat.le_refl _) (I1.hok.fresh (Nat.le_refl _))
  · obtain ⟨its, rv, p, hz⟩ := I1.tuple hx
    refine wpAny_pyIter_tuple (show s1.heap.IsTuple a its.toArray from p) ⟨s1.heap.objs.size, [s1.heap.objs.size], _, _, H1, rfl, I1.kept (t' := s1.toks) fun b o e => Heap.get?_push_of_some _ e, turn_tuple a _, ⟨_, Heap.get?_push_size _ rfl, rfl, rfl⟩, fun b hb => ?_, q _ _ wk_tup hx⟩
    obtain rfl : b = s1.heap.objs.size := by simpa using hb
    exact I1.fpOk (Nat.le_refl _) (I1.hok.fresh (Nat.le_refl _))
/-! ### comprehensions -/
section
variable {α : Type}
/-- where a comprehension stands: H1 as it began, D its list, ds its items' data -/
structure MF (H1 : Hp) (D : Addr) (ds : List α) (keep : α → Bool) (Rel : Hp → V → α → Prop) (i : Nat) (H : Hp) : Prop where
  same : Same H1 H
  acc : ∃ ys, H D = some (.lst ys) ∧ All2 (Rel H) ys ((ds.take i).filter keep)
variable {H1 : Hp} {D : Addr} {ds : List α} {keep : α → Bool} {Rel : Hp → V → α → Prop} {i : Nat} {H : Hp}
theorem mf_yes (m : MF H1 D ds keep Rel i H) {H' : Hp} {d : α} {y : V} (hd : H1 D = none) (mono : ∀ H H' y d, Fix H H' → Rel H y d → Rel H' y d) (hi : ds[i]? = some d) (hl : ds.length ≤ 100000) (s : Same H H') (k : keep d = true) (r : Rel H' y d) :
    ∃ acc, H' D = some (.lst acc) ∧ acc.length < sizeLine ∧ MF H1 D ds keep Rel (i + 1) (upd H' D (.lst (acc ++ [y]))) := by
  obtain ⟨s1, ys, e, a⟩ := m
  have e' := s _ _ e
  have fx : Fix H' (upd H' D (.lst (ys ++ [y]))) := Fix.lst e'
  refine ⟨ys, e', ?_, fun b o eb => ?_, ys ++ [y], upd_same, ?_⟩
  · have := a.len
    have h2 := List.length_filter_le keep (ds.take i)
    have h3 : (ds.take i).length ≤ ds.length := by rw [List.length_take]; exact Nat.min_le_right _ _
    rw [sizeLine_eq]; omega
  · rw [upd_ne (ne_of_none eb hd)]; exact s b o (s1 b o eb)
  · rw [List.take_add_one, hi, List.filter_append]
    show All2 _ _ (_ ++ [d].filter keep)
    rw [List.filter_cons_of_pos k]
    exact (a.imp fun _ _ q => mono _ _ _ _ ((Fix.of s).trans fx) q).app (.cons (mono _ _ _ _ fx r) .nil)
theorem mf_no (m : MF H1 D ds keep Rel i H) {H' : Hp} {d : α} (mono : ∀ H H' y d, Fix H H' → Rel H y d → Rel H' y d) (hi : ds[i]? = some d) (s : Same H H') (k : keep d = false) : MF H1 D ds keep Rel (i + 1) H' := by
  obtain ⟨s1, ys, e, a⟩ := m
  refine ⟨s1.trans s, ys, s _ _ e, ?_⟩
  rw [List.take_add_one, hi, List.filter_append]
  show All2 _ _ (_ ++ [d].filter keep)
  rw [List.filter_cons_of_neg (by rw [k]; exact Bool.false_ne_true), List.filter_nil, List.append_nil]
  exact a.imp fun _ _ q => mono _ _ _ _ (Fix.of s) q
/-- a comprehension over the walk J -/
theorem lc_mf {J : It} {a : Addr} {S : Hp → Prop} {xs : List V} {ds : List α} (W : Wk J a S xs) (keep : α → Bool) (Rel : Hp → V → α → Prop) {g : TG} {tt : TT} {te : TE} {vs : List Nat} {σ : L2.St} {H1 : Hp} {D : Addr} {Qd : Hp → Prop} (hS : S H1) (hD : H1 D = none)
    (hlen : xs.length = ds.length)
    (hs : ∀ i x d H, xs[i]? = some x → ds[i]? = some d → Same H1 H → MF H1 D ds keep Rel i H → g x (wipe σ vs) H fun σ2 H2 => wipe σ2 vs = wipe σ vs ∧ tt σ2 H2 fun b H3 =>
      if b = true then te σ2 H3 fun y H4 => ∃ acc, H4 D = some (.lst acc) ∧ acc.length < sizeLine ∧ MF H1 D ds keep Rel (i + 1) (upd H4 D (.lst (acc ++ [y]))) else MF H1 D ds keep Rel (i + 1) H3)
    (hd : ∀ H ys, Same H1 H → H D = some (.lst ys) → All2 (Rel H) ys (ds.filter keep) → Qd H) :
    ∃ W : Nat → Nat → Hp → Prop, (∃ m, W 0 m (upd H1 D (.lst []))) ∧ ∀ i m H, W i m H →
      (J.stop i H ∧ Qd H) ∨ (J.go i H ∧ ∃ Nx : Hp → Prop, (∀ H', Nx H' → ∃ m', m' < m ∧ W (i + 1) m' H') ∧ ∀ v H', J.yld i H v H' → g v (wipe σ vs) H' fun σ2 H2 => wipe σ2 vs = wipe σ vs ∧ tt σ2 H2 fun b H3 =>
        if b = true then te σ2 H3 fun y H4 => ∃ acc, H4 D = some (.lst acc) ∧ acc.length < sizeLine ∧ Nx (upd H4 D (.lst (acc ++ [y]))) else Nx H3) := by
  have stand : ∀ {H}, Same H1 H → S H := fun {H} s => W.keep (fun o e => s _ _ e) hS
  refine ⟨fun i m H => m + i = xs.length ∧ MF H1 D ds keep Rel i H, ⟨xs.length, rfl, fun b o e => by rw [upd_ne (ne_of_none e hD)]; exact e, [], upd_same, .nil⟩, fun i m H ⟨e, p⟩ => ?_⟩
  cases m with
  | zero =>
    obtain rfl : i = xs.length := by omega
    obtain ⟨ys, ey, al⟩ := p.acc
    refine .inl ⟨W.stop H (stand p.same), hd H ys p.same ey ?_⟩
    rw [List.take_of_length_le (by omega)] at al
    exact al
  | succ m =>
    have hi : i < xs.length := by omega
    refine .inr ⟨W.go i H hi (stand p.same), MF H1 D ds keep Rel (i + 1), fun H' p' => ⟨m, Nat.lt_succ_self m, by omega, p'⟩, fun v H' y => ?_⟩
    obtain ⟨rfl, ev⟩ := W.yld i H v H' hi (stand p.same) y
    exact hs i v ds[i] H' ev (List.getElem?_eq_getElem (by omega)) p.same p
end
end Sq
namespace Sq
open PySem PySem.Spec PyProof.Rows L2 Hb St
theorem wk_range {lo : Int} {n : Nat} {a : Addr} : Wk (Itr lo n) a (fun _ => True) ((List.range n).map fun k => V.int (lo + (k : Nat))) where
  go := fun i H hi _ => by
    show i < n
    simpa using hi
  stop := fun H _ => by show n ≤ _; simp
  yld := fun i H v H' hi _ y => by
    obtain ⟨e, ev⟩ := (show H' = H ∧ v = .int (lo + (i : Nat)) from y)
    have hn : i < n := by simpa using hi
    exact ⟨e, by rw [ev, List.getElem?_map, List.getElem?_range hn] <;> rfl⟩
  keep := fun _ _ => trivial
/-- a for over the walk J -/
theorem for_sq {J : It} {a : Addr} {S : Hp → Prop} {xs : List V} (W : Wk J a S xs) {g : TG} {tb : TS} {D : Ends} {σ : L2.St} {H : Hp} (Pv : Nat → L2.St → Hp → Prop) (h0 : Pv 0 σ H) (hk : ∀ i σ H, Pv i σ H → S H)
    (hs : ∀ i σ H x, xs[i]? = some x → Pv i σ H → g x σ H fun σ2 H2 => tb { D with nx := Pv (i + 1), ct := Pv (i + 1), bk := D.nx } σ2 H2) (hd : ∀ σ H, Pv xs.length σ H → D.nx σ H) :
    ∃ W : Nat → Nat → L2.St → Hp → Prop, (∃ m, W 0 m σ H) ∧ ∀ i m σ H, W i m σ H →
      (J.stop i H ∧ D.nx σ H) ∨ (J.go i H ∧ ∃ N : L2.St → Hp → Prop, (∀ σ' H', N σ' H' → ∃ m', m' < m ∧ W (i + 1) m' σ' H') ∧ ∀ v H', J.yld i H v H' → g v σ H' fun σ2 H2 => tb { D with nx := N, ct := N, bk := D.nx } σ2 H2) := by
  refine ⟨fun i m σ H => m + i = xs.length ∧ Pv i σ H, ⟨xs.length, rfl, h0⟩, fun i m σ H ⟨e, p⟩ => ?_⟩
  cases m with
  | zero =>
    obtain rfl : i = xs.length := by omega
    exact .inl ⟨W.stop H (hk _ _ _ p), hd σ H p⟩
  | succ m =>
    refine .inr ⟨W.go i H (by omega) (hk _ _ _ p), Pv (i + 1), fun σ' H' p' => ⟨m, Nat.lt_succ_self m, by omega, p'⟩, fun v H' y => ?_⟩
    obtain ⟨rfl, ev⟩ := W.yld i H v H' (by omega) (hk _ _ _ p) y
    exact hs i σ H' v ev p
/-- a walk of enumerate -/
structure En (J : It) (a : Addr) (S : Hp → Prop) (xs : List V) : Prop where
  go : ∀ i H, i < xs.length → S H → J.go i H
  stop : ∀ H, S H → J.stop xs.length H
  yld : ∀ i H v H', S H → J.yld i H v H' → ∃ T x, v = .ref T ∧ H T = none ∧ H' = upd H T (.tup [.int (i : Nat), x]) ∧ xs[i]? = some x
theorem en_list {K : PySem.W.Frag} {a : Addr} {xs : List V} : En (Ite K a) a (fun H => SqL K H a xs) xs where
  go := fun i H hi s => ⟨xs, xs[i], s, List.getElem?_eq_getElem hi⟩
  stop := fun H s => ⟨xs, s, Nat.le_refl _⟩
  yld := fun i H v H' s ⟨T, x, e1, e2, e3, f⟩ => ⟨T, x, e1, e2, e3, f xs s⟩
theorem en_tup {K : PySem.W.Frag} {a : Addr} {xs : List V} : En (En.IteT K a) a (fun H => SqT K H a xs) xs where
  go := fun i H hi s => ⟨xs, xs[i], s, List.getElem?_eq_getElem hi⟩
  stop := fun H s => ⟨xs, s, Nat.le_refl _⟩
  yld := fun i H v H' s ⟨T, x, e1, e2, e3, f⟩ => ⟨T, x, e1, e2, e3, f xs s⟩
theorem for_en {J : It} {a : Addr} {S : Hp → Prop} {xs : List V} (W : En J a S xs) {g : TG} {tb : TS} {D : Ends} {σ : L2.St} {H : Hp} (Pv : Nat → L2.St → Hp → Prop) (h0 : Pv 0 σ H) (hk : ∀ i σ H, Pv i σ H → S H)
    (hs : ∀ i σ H x T, xs[i]? = some x → Pv i σ H → H T = none → g (.ref T) σ (upd H T (.tup [.int (i : Nat), x])) fun σ2 H2 => tb { D with nx := Pv (i + 1), ct := Pv (i + 1), bk := D.nx } σ2 H2) (hd : ∀ σ H, Pv xs.length σ H → D.nx σ H) :
    ∃ W : Nat → Nat → L2.St → Hp → Prop, (∃ m, W 0 m σ H) ∧ ∀ i m σ H, W i m σ H →
      (J.stop i H ∧ D.nx σ H) ∨ (J.go i H ∧ ∃ N : L2.St → Hp → Prop, (∀ σ' H', N σ' H' → ∃ m', m' < m ∧ W (i + 1) m' σ' H') ∧ ∀ v H', J.yld i H v H' → g v σ H' fun σ2 H2 => tb { D with nx := N, ct := N, bk := D.nx } σ2 H2) := by
  refine ⟨fun i m σ H => m + i = xs.length ∧ Pv i σ H, ⟨xs.length, rfl, h0⟩, fun i m σ H ⟨e, p⟩ => ?_⟩
  cases m with
  | zero =>
    obtain rfl : i = xs.length := by omega
    exact .inl ⟨W.stop H (hk _ _ _ p), hd σ H p⟩
  | succ m =>
    refine .inr ⟨W.go i H (by omega) (hk _ _ _ p), Pv (i + 1), fun σ' H' p' => ⟨m, Nat.lt_succ_self m, by omega, p'⟩, fun v H' y => ?_⟩
    obtain ⟨T, x, rfl, hT, rfl, ex⟩ := W.yld i H v H' (hk _ _ _ p) y
    exact hs i σ H x T ex p hT
theorem pi_or {X : Cx} {tg it : Expr} {w1 w2 : TI} (h1 : PI X tg it w1) (h2 : PI X tg it w2) : PI X tg it (fun σ H R => w1 σ H R ∨ w2 σ H R) := ⟨fun pins s σ H R I h => h.elim (h1.run pins s σ H R I) (h2.run pins s σ H R I)⟩
def rTupE (K : PySem.W.Frag) : List V → Hp → VK → Prop := fun xs H Q => ∃ p ys, xs = [V.ref p] ∧ ((SqL K H p ys ∧ ∀ l, H l = none → Q (.ref l) (upd H l (.tup ys))) ∨ (SqT K H p ys ∧ Q (.ref p) H))
theorem call_tupE {X : Cx} : CallR X (.type "tuple") (rTupE X.K) := call_tuple_of
end Sq

/-! comprehensions over zip and enumerate, dict comprehensions, max(.., default=..), D.get(x) of a dict of the text -/
namespace Zp
open PySem PySem.Spec PyProof.Rows L2 Hb St Sq RZ
/-- a walk of new pairs: where S stands, at the i-th turn the i-th of ps -/
structure Wp (J : It) (S : Hp → Prop) (ps : List (V × V)) : Prop where
  go : ∀ i H, i < ps.length → S H → J.go i H
  stop : ∀ H, S H → J.stop ps.length H
  yld : ∀ i H v H', i < ps.length → S H → J.yld i H v H' → ∃ T p, v = .ref T ∧ H T = none ∧ H' = upd H T (.tup [p.1, p.2]) ∧ ps[i]? = some p
  keep : ∀ {H H' : Hp}, Same H H' → S H → S H'
theorem zip_at {xs ys : List V} {i : Nat} {x y : V} (hx : xs[i]? = some x) (hy : ys[i]? = some y) : (xs.zip ys)[i]? = some (x, y) := by
  rw [List.getElem?_zip_eq_some]
  exact ⟨hx, hy⟩
theorem wp_tup {K : PySem.W.Frag} {a b : Addr} {xs ys : List V} : Wp (ItzT K a b) (fun H => SqT K H a xs ∧ SqT K H b ys) (xs.zip ys) where
  go := fun i H hi s => by
    rw [List.length_zip] at hi
    exact ⟨xs, ys, xs[i]'(by omega), ys[i]'(by omega), s.1, s.2, List.getElem?_eq_getElem _, List.getElem?_eq_getElem _⟩
  stop := fun H s => ⟨xs, ys, s.1, s.2, by rw [List.length_zip]; omega⟩
  yld := fun i H v H' hi s ⟨T, x, y, e1, e2, e3, f, g⟩ => ⟨T, (x, y), e1, e2, e3, zip_at (f xs s.1) (g ys s.2)⟩
  keep := fun k s => ⟨tupFix (Fix.of k) s.1, tupFix (Fix.of k) s.2⟩
theorem wp_lst {K : PySem.W.Frag} {a b : Addr} {xs ys : List V} : Wp (Itz K a b) (fun H => SqL K H a xs ∧ SqL K H b ys) (xs.zip ys) where
  go := fun i H hi s => by
    rw [List.length_zip] at hi
    exact ⟨xs, ys, xs[i]'(by omega), ys[i]'(by omega), s.1, s.2, List.getElem?_eq_getElem _, List.getElem?_eq_getElem _⟩
  stop := fun H s => ⟨xs, ys, s.1, s.2, by rw [List.length_zip]; omega⟩
  yld := fun i H v H' hi s ⟨T, x, y, e1, e2, e3, f, g⟩ => ⟨T, (x, y), e1, e2, e3, zip_at (f xs s.1) (g ys s.2)⟩
  keep := fun k s => ⟨lstSame k s.1, lstSame k s.2⟩
section
variable {α : Type}
/-- a comprehension over a walk of pairs -/
theorem lc_mp {J : It} {S : Hp → Prop} {ps : List (V × V)} {ds : List α} (W : Wp J S ps) (keep : α → Bool) (Rel : Hp → V → α → Prop) {g : TG} {tt : TT} {te : TE} {vs : List Nat} {σ : L2.St} {H1 : Hp} {D : Addr} {Qd : Hp → Prop} (hS : S H1) (hD : H1 D = none)
    (hlen : ps.length = ds.length) (mono : ∀ H H' y d, Fix H H' → Rel H y d → Rel H' y d)
    (hs : ∀ i T p d H, ps[i]? = some p → ds[i]? = some d → Same H1 H → H T = some (.tup [p.1, p.2]) → MF H1 D ds keep Rel i H → g (.ref T) (wipe σ vs) H fun σ2 H2 => wipe σ2 vs = wipe σ vs ∧ tt σ2 H2 fun b H3 =>
      if b = true then te σ2 H3 fun y H4 => ∃ acc, H4 D = some (.lst acc) ∧ acc.length < sizeLine ∧ MF H1 D ds keep Rel (i + 1) (upd H4 D (.lst (acc ++ [y]))) else MF H1 D ds keep Rel (i + 1) H3)
    (hd : ∀ H ys, Same H1 H → H D = some (.lst ys) → All2 (Rel H) ys (ds.filter keep) → Qd H) :
    ∃ W : Nat → Nat → Hp → Prop, (∃ m, W 0 m (upd H1 D (.lst []))) ∧ ∀ i m H, W i m H →
      (J.stop i H ∧ Qd H) ∨ (J.go i H ∧ ∃ Nx : Hp → Prop, (∀ H', Nx H' → ∃ m', m' < m ∧ W (i + 1) m' H') ∧ ∀ v H', J.yld i H v H' → g v (wipe σ vs) H' fun σ2 H2 => wipe σ2 vs = wipe σ vs ∧ tt σ2 H2 fun b H3 =>
        if b = true then te σ2 H3 fun y H4 => ∃ acc, H4 D = some (.lst acc) ∧ acc.length < sizeLine ∧ Nx (upd H4 D (.lst (acc ++ [y]))) else Nx H3) := by
  have stand : ∀ {H}, Same H1 H → S H := fun {H} s => W.keep s hS
  refine ⟨fun i m H => m + i = ps.length ∧ MF H1 D ds keep Rel i H, ⟨ps.length, rfl, fun b o e => by rw [upd_ne (ne_of_none e hD)]; exact e, [], upd_same, .nil⟩, fun i m H ⟨e, p⟩ => ?_⟩
  cases m with
  | zero =>
    obtain rfl : i = ps.length := by omega
    obtain ⟨ys, ey, al⟩ := p.acc
    refine .inl ⟨W.stop H (stand p.same), hd H ys p.same ey ?_⟩
    rw [List.take_of_length_le (by omega)] at al
    exact al
  | succ m =>
    have hi : i < ps.length := by omega
    refine .inr ⟨W.go i H hi (stand p.same), MF H1 D ds keep Rel (i + 1), fun H' p' => ⟨m, Nat.lt_succ_self m, by omega, p'⟩, fun v H' y => ?_⟩
    obtain ⟨T, x, rfl, hT, rfl, ex⟩ := W.yld i H v H' hi (stand p.same) y
    have s2 := same_new hT (.tup [x.1, x.2])
    obtain ⟨s1, ys, ey, al⟩ := p
    exact hs i T x ds[i] _ ex (List.getElem?_eq_getElem (by omega)) (s1.trans s2) upd_same ⟨s1.trans s2, ys, s2 _ _ ey, al.imp fun _ _ q => mono _ _ _ _ (Fix.of s2) q⟩
/-- a dict comprehension over enumerate: kvs of the first i items -/
theorem dc_en {J : It} {a : Addr} {S : Hp → Prop} {xs : List V} (W : Sq.En J a S xs) (kv : Nat → List (L2.Key × V)) {g : TG} {tt : TT} {tk tv : TE} {vs : List Nat} {σ : L2.St} {H1 : Hp} {D : Addr} {Qd : Hp → Prop} (hS : ∀ {H}, Same H1 H → S H) (hD : H1 D = none)
    (h0 : kv 0 = []) (hl : ∀ i, (kv i).length < sizeLine)
    (hs : ∀ i T x H, xs[i]? = some x → Same H1 H → H T = some (.tup [.int (i : Nat), x]) → H D = some (.dK (kv i)) → g (.ref T) (wipe σ vs) H fun σ2 H2 => wipe σ2 vs = wipe σ vs ∧ tt σ2 H2 fun b H3 =>
      b = true ∧ tk σ2 H3 fun y H4 => tv σ2 H4 fun z H5 => Same H H5 ∧ ∃ k, y = kV k ∧ putK (kv i) k z = kv (i + 1))
    (hd : ∀ H, Same H1 H → H D = some (.dK (kv xs.length)) → Qd H) (mono : ∀ {σ H} {Q Q' : L2.St → Hp → Prop}, (∀ σ H, Q σ H → Q' σ H) → ∀ v, g v σ H Q → g v σ H Q') (monot : ∀ {σ H} {Q Q' : Bool → Hp → Prop}, (∀ b H, Q b H → Q' b H) → tt σ H Q → tt σ H Q')
    (monok : ∀ {σ H} {Q Q' : VK}, (∀ v H, Q v H → Q' v H) → tk σ H Q → tk σ H Q') (monov : ∀ {σ H} {Q Q' : VK}, (∀ v H, Q v H → Q' v H) → tv σ H Q → tv σ H Q') :
    ∃ W : Nat → Nat → Hp → Prop, (∃ m, W 0 m (upd H1 D (.dK []))) ∧ ∀ i m H, W i m H →
      (J.stop i H ∧ Qd H) ∨ (J.go i H ∧ ∃ Nx : Hp → Prop, (∀ H', Nx H' → ∃ m', m' < m ∧ W (i + 1) m' H') ∧ ∀ v H', J.yld i H v H' → g v (wipe σ vs) H' fun σ2 H2 => wipe σ2 vs = wipe σ vs ∧ tt σ2 H2 fun b H3 =>
        if b = true then tk σ2 H3 fun y H4 => tv σ2 H4 fun z H5 => ∃ kvs k, y = kV k ∧ H5 D = some (.dK kvs) ∧ kvs.length < sizeLine ∧ Nx (upd H5 D (.dK (putK kvs k z))) else Nx H3) := by
  refine ⟨fun i m H => m + i = xs.length ∧ Same H1 H ∧ H D = some (.dK (kv i)), ⟨xs.length, rfl, fun b o e => by rw [upd_ne (ne_of_none e hD)]; exact e, by rw [upd_same, h0]⟩, fun i m H ⟨e, s, eD⟩ => ?_⟩
  cases m with
  | zero =>
    obtain rfl : i = xs.length := by omega
    exact .inl ⟨W.stop H (hS s), hd H s eD⟩
  | succ m =>
    have hi : i < xs.length := by omega
    refine .inr ⟨W.go i H hi (hS s), fun H' => Same H1 H' ∧ H' D = some (.dK (kv (i + 1))), fun H' p' => ⟨m, Nat.lt_succ_self m, by omega, p'⟩, fun v H' y => ?_⟩
    obtain ⟨T, x, rfl, hT, rfl, ex⟩ := W.yld i H v H' (hS s) y
    have s2 := same_new hT (.tup [.int (i : Nat), x])
    refine mono (fun σ2 H2 q => ⟨q.1, monot (fun b H3 q => ?_) q.2⟩) _ (hs i T x _ ex (s.trans s2) upd_same (s2 _ _ eD))
    obtain ⟨rfl, q⟩ := q
    rw [if_pos rfl]
    refine monok (fun y H4 q => monov (fun z H5 q => ?_) q) q
    obtain ⟨s3, k, ek, ep⟩ := q
    refine ⟨_, k, ek, s3 _ _ (s2 _ _ eD), hl i, fun b o e => ?_, by rw [upd_same, ep]⟩
    rw [upd_ne (ne_of_none e hD)]
    exact s3 _ _ ((s.trans s2) _ _ e)
end
/-! ### max(xs, default=d) -/
def rMaxDf (K : PySem.W.Frag) : List V → List V → Hp → VK → Prop := fun xs zs H Q => ∃ (a : Addr) (ns : List Int) (d : Int), xs = [.ref a] ∧ zs = [.int d] ∧ SqL K H a (ns.map V.int) ∧ (ns = [] → Q (.int d) H) ∧ ∀ m, m ∈ ns → (∀ y ∈ ns, y ≤ m) → Q (.int m) H
theorem maxOf_is (x : Int) : ∀ xs : List Int, PySem.W.maxOf x xs ∈ x :: xs ∧ ∀ y ∈ x :: xs, y ≤ PySem.W.maxOf x xs := by
  intro xs
  unfold PySem.W.maxOf
  induction xs generalizing x with
  | nil => exact ⟨List.mem_cons_self, fun y hy => by rw [List.mem_singleton.mp hy]; exact Int.le_refl _⟩
  | cons z xs ih =>
    rw [List.foldl_cons]
    by_cases c : PySem.W.DatumOrd.lt x z = true
    · rw [if_pos c]
      have c' : x < z := of_decide_eq_true c
      obtain ⟨h1, h2⟩ := ih z
      refine ⟨List.mem_cons_of_mem _ h1, fun y hy => ?_⟩
      rcases List.mem_cons.mp hy with e | hy
      · have := h2 z List.mem_cons_self
        omega
      · exact h2 y hy
    · rw [if_neg c]
      have c' : ¬ x < z := fun q => c (decide_eq_true q)
      obtain ⟨h1, h2⟩ := ih x
      have hx := h2 x List.mem_cons_self
      refine ⟨?_, fun y hy => ?_⟩
      · rcases List.mem_cons.mp h1 with e | h1
        · rw [e]; exact List.mem_cons_self
        · exact List.mem_cons_of_mem _ (List.mem_cons_of_mem _ h1)
      · rcases List.mem_cons.mp hy with e | hy
        · omega
        · rcases List.mem_cons.mp hy with e | hy
          · omega
          · exact h2 y (List.mem_cons_of_mem _ hy)
theorem cr_maxDf {X : Cx} (hc : X.calm = true) (hu : X.A.units + 64 < cLine) : CallRK X (.builtin "max") ["default"] (rMaxDf X.K) := by
  intro pins s σ H xs zs us ws Q I r1 r2 h
  obtain ⟨a, ns, d, rfl, rfl, hs, q0, q1⟩ := h
  obtain ⟨its, rv, hl, _⟩ := I.list hs
  cases r2 with
  | cons rd rt =>
    cases rt
    obtain ⟨t, rfl⟩ := rd
    rw [Vals.ref1 r1]
    show wpAny (model X.prog X.w) X.A (call (.builtin "max") [.ref a] [(Str.ofString "default", _)]) _ _ s
    refine PySem.W.max_list_datum_default (α := Int) (I.ok.hd hc) hl.isList (PySem.W.HoldAll.of_ints rv.ints) (by show X.A.units + 1 + 0 < cLine; omega) (fun e h' tk hk => ⟨.int d, H, I.kept hk, ⟨_, rfl⟩, q0 e⟩) fun y ys i v h' tk e hv hh hk => ?_
    obtain ⟨as, hr⟩ := hh
    obtain ⟨m1, m2⟩ := maxOf_is y ys
    generalize PySem.W.maxOf y ys = m at hr m1 m2
    have hr : Reads h' v (.int m) as := hr
    cases hr with
    | int _ t => exact ⟨.int m, H, I.kept hk, ⟨t, rfl⟩, q1 m (e ▸ m1) fun y hy => m2 y (e ▸ hy)⟩
/-! ### D.get(x), D a dict of the text -/
def tKGet (K : PySem.W.Frag) (w : World) (p : Addr) (ty : TE) : TE := fun σ H Q => ty σ H fun y H2 => ∃ z v, y = .str z ∧ KDct K w p z v ∧ Q v H2
theorem pe_kget {X : Cx} {x : Str} {xp : Pos} {e : Expr} {apos cpos : Pos} {ty : TE} {p : Addr} {es : Array DictEntry} {n : Nat} (D : KDict X.K X.w p es n) (hg : Gl X x) (hm : X.mg x = some (.ref p)) (he : PE X e ty) (m : M1 X (.Name x xp) "get" apos e cpos) (hdb : (x == ("__debug__" : Str)) = false := by decide) :
    PE X (.Call (.Attribute (.Name x xp) "get" apos) [e] [] cpos) (tKGet X.K X.w p ty) := by
  refine ⟨fun pins s σ H Q I h => ?_⟩
  have ho : PE X (.Name x xp) (tC (.ref p)) := pe_glob hg hm rfl hdb
  refine wpAny_Call_method m.base m.few m.line PySem.F.plainAttrs_dict PySem.F.slot_dict_get PySem.F.type_dict_get (thn (ho.run pins s σ H (fun x H1 => x = .ref p ∧ H1 = H) I ⟨rfl, rfl⟩) fun u s1 ⟨x, H1, I1, rx, ex, eH⟩ => ?_)
  subst ex eH
  obtain rfl : u = Value.ref p := rx
  have mo := PySem.W.mapOf_K (prog := X.prog) (w := X.w) I1.kIn D.at_ D.lit
  refine ⟨mo.typeIs, fun b q => ?_, ?_⟩
  · cases q
    exact ⟨_, I1.kIn _ _ D.at_, rfl⟩
  rw [m.trees]
  refine Calls.callWith_builtin rfl (Calls.evalArgs_plain (Calls.spliced_cons (thn (he.run pins s1 σ H1 _ I1 h) fun iv s2 ⟨y, H2, I2, ry, z, v, ey, ⟨es', n', u0, hl, hk, eu, ru⟩, q2⟩ => Calls.spliced_nil ?_)))
  subst ey
  obtain ⟨t, rfl⟩ := ry
  have mo2 := PySem.W.mapOf_K (prog := X.prog) (w := X.w) I2.kIn hl hk
  refine call_meetsIn PySem.F.slot_dict_get mo2.typeIs PySem.F.entry_dict_get (PySem.F.args_dict_get_2 _ _) (meets_dict_get _ p (strKind_is X.prog X.w z t) D.low) ⟨_, mo2, ?_⟩
  rw [PySem.W.find_K hl eu]
  exact ⟨v, H2, I2.tok _, ru, q2⟩
end Zp
namespace Zp
open PySem PySem.Spec PyProof.Rows L2 Hb St Sq RZ
theorem pe_or2 {X : Cx} {e : Expr} {t1 t2 : TE} (h1 : PE X e t1) (h2 : PE X e t2) : PE X e (fun σ H Q => t1 σ H Q ∨ t2 σ H Q) := ⟨fun pins s σ H Q I h => h.elim (h1.run pins s σ H Q I) (h2.run pins s σ H Q I)⟩
theorem _root_.L2.Room.units65 {k : Nat} {A : Around} (r : Room k A) : A.units + 65 < cLine := by have := r.un; omega
end Zp

/-! readings -/
namespace Rd
open PySem PySem.Spec PyProof.Rows L2 Hb St Sq RZ
section
variable {K : PySem.W.Frag} {H : Hp} {Q : VK}
theorem ty_tup {a : Addr} {xs : List V} (h : SqT K H a xs) : TyX K H (.ref a) (.type "tuple") := by
  rcases h with (e | ⟨o, e⟩) | ⟨o, its, n, e, c, _⟩
  · exact .base (.tup e)
  · exact .fTuple e
  · exact .kTuple e c
theorem ty_lst {a : Addr} {xs : List V} (h : SqL K H a xs) : TyX K H (.ref a) (.type "list") := by
  rcases h with (e | ⟨o, e⟩) | ⟨o, its, n, e, c, _⟩
  · exact .base (.lst e)
  · exact .base (.frz e)
  · exact .kList e c
theorem rd_isTup {a : Addr} {xs : List V} (h : SqT K H a xs) (q : Q (.bl true) H) : rIsi K [.ref a, .ty "tuple"] H Q := ⟨_, _, _, _, _, rfl, .ty "tuple", ty_tup h, kit_ty (r := true) (by decide +kernel), q⟩
theorem rd_noTupL {a : Addr} {xs : List V} (h : SqL K H a xs) (q : Q (.bl false) H) : rIsi K [.ref a, .ty "tuple"] H Q := ⟨_, _, _, _, _, rfl, .ty "tuple", ty_lst h, kit_ty (r := false) (by decide +kernel), q⟩
theorem rd_noTupS {x : Str} (q : Q (.bl false) H) : rIsi K [.str x, .ty "tuple"] H Q := ⟨_, _, _, _, _, rfl, .ty "tuple", .base (.str x), kit_ty (r := false) (by decide +kernel), q⟩
theorem rd_noTupI {i : Int} (q : Q (.bl false) H) : rIsi K [.int i, .ty "tuple"] H Q := ⟨_, _, _, _, _, rfl, .ty "tuple", .base (.int i), kit_ty (r := false) (by decide +kernel), q⟩
theorem rd_isStr {x : Str} (q : Q (.bl true) H) : rIsi K [.str x, .ty "str"] H Q := ⟨_, _, _, _, _, rfl, .ty "str", .base (.str x), kit_ty (r := true) (by decide +kernel), q⟩
theorem rd_noStr {i : Int} (q : Q (.bl false) H) : rIsi K [.int i, .ty "str"] H Q := ⟨_, _, _, _, _, rfl, .ty "str", .base (.int i), kit_ty (r := false) (by decide +kernel), q⟩
theorem sIx1 {n : Nat} (h : 1 ≤ n) : HT.sIx n 0 (some 1) = 1 := by rw [show (1 : Int) = ((1 : Nat) : Int) from rfl, HT.sIx_nat]; omega
theorem cut1 {v : V} {xs : List V} : cutV (v :: xs) (some 1) none = xs := by
  unfold cutV
  rw [sIx1 (by simp), HT.sIx_none, List.drop_one, List.tail_cons, List.take_of_length_le (by simp)]
/-- a tuple from its second thing on -/
theorem rd_tail {a : Addr} {v : V} {xs : List V} (h : SqT K H a (v :: xs)) (q : ∀ p H', H p = none → Same H H' → H' p = some (.tup xs) → Q (.ref p) H') : rSlA K (.ref a) (some 1) none H Q := by
  refine ⟨a, _, rfl, h, fun ⟨z, _⟩ => ?_, fun _ p hp => ?_⟩
  · rw [sIx1 (by simp)] at z
    cases z
  · rw [cut1]
    exact q p _ hp (same_new hp _) upd_same
theorem rd_all {a : Addr} {bs : List Bool} (h : SqL K H a (bs.map V.bl)) (q : Q (.bl (bs.all id)) H) : rAll K [.ref a] H Q := ⟨a, bs, rfl, h, q⟩
theorem bl_true {α : Type} {ys : List V} {ds : List α} (h : All2 (fun (y : V) (_ : α) => y = .bl true) ys ds) : ys = (ds.map fun _ => true).map V.bl := by
  rw [List.map_map]
  exact h.map_eq fun a b e => e
theorem rd_allT {α : Type} {a : Addr} {ys : List V} {ds : List α} (h : H a = some (.lst ys)) (al : All2 (fun (y : V) (_ : α) => y = .bl true) ys ds) (q : Q (.bl true) H) : rAll K [.ref a] H Q := by
  refine rd_all (bs := ds.map fun _ => true) (SqL.of (by rw [← bl_true al]; exact h)) ?_
  rw [show ((ds.map fun _ => true).all id) = true by simp]
  exact q
theorem at_map {α β : Type} {f : α → β} {l : List α} {i : Nat} {x : β} {d : α} (h : (l.map f)[i]? = some x) (k : l[i]? = some d) : x = f d := by
  rw [List.getElem?_map, k] at h
  exact (Option.some.inj h).symm
theorem at_mem {α : Type} {l : List α} {i : Nat} {d : α} (k : l[i]? = some d) : d ∈ l := List.mem_of_getElem? k
theorem filter_all {α : Type} (l : List α) : l.filter (fun _ => true) = l := List.filter_eq_self.mpr fun _ _ => rfl
/-- an item from behind -/
theorem at_last {xs : List V} {x : V} : atI (xs ++ [x]) (-1) = some x := by
  unfold atI ixN
  rw [List.length_append, if_neg (by decide), if_pos (by simp; omega)]
  show (xs ++ [x])[(-1 + ((xs.length + [x].length : Nat) : Int)).toNat]? = some x
  rw [show (-1 + ((xs.length + [x].length : Nat) : Int)).toNat = xs.length by simp; omega, List.getElem?_append_right (Nat.le_refl _), Nat.sub_self]
  rfl
theorem at_nat {α : Type} {xs : List α} {i : Nat} {x : α} (h : xs[i]? = some x) : atI xs (i : Nat) = some x := by
  have hi := (List.getElem?_eq_some_iff.mp h).1
  unfold atI ixN
  rw [if_pos (by omega), if_pos (by omega)]
  exact h
theorem at0 {α : Type} {x : α} {xs : List α} : atI (x :: xs) 0 = some x := at_nat (i := 0) rfl
theorem at1 {α : Type} {x y : α} {xs : List α} : atI (x :: y :: xs) 1 = some y := at_nat (i := 1) rfl
theorem at2 {α : Type} {x y z : α} {xs : List α} : atI (x :: y :: z :: xs) 2 = some z := at_nat (i := 2) rfl
theorem rd_slc {σ : L2.St} {i : Nat} {a : Addr} {v : V} {xs : List V} {tr : TA} {R : List V → Hp → Prop} (e : σ[i]? = some (some (.ref a))) (h : SqT K H a (v :: xs)) (q : ∀ p H', H p = none → Same H H' → H' p = some (.tup xs) → tr σ H' fun ys H2 => R (.ref p :: ys) H2) :
    tCons (tSl (rSlA K) (tVar i) (tPart (tC (.int 1))) tNoPart) tr σ H R := by
  refine ⟨_, e, 1, rfl, ?_⟩
  exact rd_tail (Q := fun x H1 => tr σ H1 fun ys H2 => R (x :: ys) H2) h q
end
end Rd

/-! promises of defs that are called while no repr is under way: the same calculus, one thing more known of what runs around -/
namespace Gu
open PySem PySem.Spec PyProof.Rows L2
abbrev Free (A : Around) : Prop := A.guards = some []
/-- the def at f keeps its promise wherever nothing is being shown -/
structure FnG (P : Program) (w : World) (K : PySem.W.Frag) (mg : Str → Option Value) (base : Heap) (CX : CXT) (k : Nat) (f : Addr) (fd : FuncData) (ps : List Str) (sp : Sp) : Prop where
  many : ∀ vs H Q E, sp vs H Q E → vs.length = ps.length
  go : ∀ (A : Around) (outer : List Env) (s : Shared) (H : Hp) (args : Args) (us : List Value) (vs : List V) (Q : VK) (E : XK), Room k A → Free A → Env0 P w K mg base A outer s H → BindsTo s fd args (ps.zip us) → Vals vs us → sp vs H Q E →
    codeAny (model P w) A (.call (.ref f) args) (CR CX outer P w H s Q E) s
section
variable {P : Program} {w : World} {K : PySem.W.Frag} {mg : Str → Option Value} {base : Heap} {CX : CXT}
/-- a promise that is kept anywhere -/
theorem FnG.of {k : Nat} {f : Addr} {fd : FuncData} {ps : List Str} {sp : Sp} (F : FnOk P w K mg base CX k f fd ps sp) : FnG P w K mg base CX k f fd ps sp := ⟨F.len, fun A o s H a us vs Q E r _ => F.run A o s H a us vs Q E r⟩
theorem deeper_free {A : Around} {env : Env} (h : Free A) : Free (A.deeper env) := h
theorem mk_go {k : Nat} {f : Addr} {name qual : Str} {params : Arguments} {body : List Stmt} {scope : Scope} {dV kV doc pm cdv ct oc : Value} {an od : Option Addr} {osl : Array (Option Value)} {N ps : List Str} {sp : Sp}
    (at_f : K.lookup f = some ⟨oc, od, .func (PySem.W.fnOf name qual params body scope dV kV doc pm an cdv ct), osl⟩) (code : PySem.W.codeIn K cdv qual = true) (S : FnScope N ps scope) (many : ∀ vs H Q E, sp vs H Q E → vs.length = ps.length)
    (inside : ∀ (A : Around) (outer : List Env) (s : Shared) (H : Hp) (vs : List V) (Q : VK) (E : XK), Room k (A.deeper (envOfC qual scope s.heap.objs.size f cdv)) → Free A → sp vs H Q E →
      ∃ t, PSs (cxOf CX P w K mg base N qual scope f cdv A outer s H E) body t ∧ t { nx := fun _ H' => Q .non H', rt := Q } (start N vs) H) :
    FnG P w K mg base CX (k + 1) f (PySem.W.fnOf name qual params body scope dV kV doc pm an cdv ct) ps sp where
  many := many
  go A outer s H args us vs Q E room free e0 binds rel hs := by
    have count := many _ _ _ _ hs
    have stays : ∀ b o, base.get? b = some o → s.heap.get? b = some o := fun b o e => (e0.bs b o e).1
    have inK : K.In s.heap := e0.mod.kin.keeps stays
    refine codeAny_call_function room.depth (inK _ _ at_f) rfl S.co S.gen rfl (PySem.W.codeRec_of inK code) (binds _ _ _ _ ?_)
    refine wpAny_newFunctionEnv_cells S.kind (fun y hy => (S.par y.1 (List.of_mem_zip hy).1).elim Or.inl fun c => .inr ⟨c, PySem.W.cellsFrom_some _ _ _ (.inl c)⟩) fun env made s1 x => ?_
    subst made
    refine ⟨(e0.mod.nolimit.keeps stays).keeps x.toInCall.keep, codeAny_func ?_⟩
    obtain ⟨t, run, rd⟩ := inside A outer s H vs Q E (room.deeper _) free hs
    have I0 := inv_start (CX := CX) (E := E) S room.hd e0 count rel x
    refine wpAny_mono (run.run [] s1 (start N vs) H _ I0 rd) (fun fl s' out => ?_) fun _ _ z => z
    rcases fl with _ | _ | _ | u
    · obtain ⟨_, H', J, q⟩ := out
      exact ⟨V.non, H', J.os, J.bare, J.base, J.hok, rfl, q⟩
    · exact out.elim fun _ z => z.elim fun _ y => False.elim y.2
    · exact out.elim fun _ z => z.elim fun _ y => False.elim y.2
    · obtain ⟨v, _, H', J, rv, q⟩ := out
      exact ⟨v, H', J.os, J.bare, J.base, J.hok, rv, q⟩
end
/-! ### calls -/
section
variable {X : Cx} {CX : CXT} {k : Nat} {f C : Addr} {fd : FuncData} {ps : List Str} {sp : Sp} {dvs : List V} {ds : List Value} {E : XK}
theorem go_call {pins : List (Addr × Obj)} {σ : L2.St} {H : Hp} {s : Shared} {Q : VK} {args : Args} {us : List Value} {vs : List V} (F : FnG X.prog X.w X.K X.mg X.base CX k f fd ps sp) (room : Room k X.A) (free : Free X.A) (hx : Passes CX X E)
    (I : Inv X pins σ H s) (b : BindsTo s fd args (ps.zip us)) (r : Vals vs us) (h : sp vs H Q E) : codeAny (model X.prog X.w) X.A (.call (.ref f) args) (fun r s' => match r with
      | .error e => X.xe e s'
      | .ok (.ret u) => EP X pins σ Q u s'
      | .ok _ => False) s := codeAny_mono (F.go X.A X.stack s H args us vs Q E room free I.env0 b r h) fun r s' out => by
  rcases r with e | fl
  · exact hx pins σ H s e s' I out
  · rcases fl with _ | _ | _ | u <;> first | exact I.after out | exact False.elim out
end
/-- a def of the text, by its promise -/
structure Cg (P : Program) (w : World) (K : PySem.W.Frag) (mg : Str → Option Value) (base : Heap) (CX : CXT) (x : Str) (ps : List Str) (dvs : List V) (lv : Nat) (sp : Sp) : Prop where
  ex : ∃ (f : Addr) (fd : FuncData) (ds : List Value), FnG P w K mg base CX lv f fd ps sp ∧ mg x = some (.ref f) ∧ PySem.W.keepIn K (.ref f) = true ∧ Binds K fd ps ds ∧ Vals dvs ds
section
variable {X : Cx} {CX : CXT} {ps : List Str} {dvs : List V} {lv : Nat} {sp : Sp} {x : Str} {p pos : Pos} {e : Expr} {es : List Expr} {t : TA} {E : XK}
theorem pe_gox (C : Cg X.prog X.w X.K X.mg X.base CX x ps dvs lv sp) (hr : Room lv X.A) (fr : Free X.A) (hx : Passes CX X E) (hg : Gl X x) (ha : PA X (e :: es) t) (hdb : (x == ("__debug__" : Str)) = false := by decide)
    (he : starEach (e :: es) X.env = (false, eval e X.env) :: starEach es X.env := by rfl) (hpl : (backTo pos (starEach es X.env)).any (·.1) = false := by rfl) : PE X (.Call (.Name x p) (e :: es) [] pos) (tCall sp dvs E t) := by
  obtain ⟨f, fd, ds, F, hm, hk, hb, hd⟩ := C.ex
  refine ⟨fun pins s σ H Q I h => wpAny_Call_Name_kw (ld_glob I hg hm ?_ hdb)⟩
  refine PySem.W.callWith_K (h₀ := X.base) I.ok.mod.kin hk (thn (ha.run pos pins s σ H _ I h) fun us s1 ⟨vs, H1, I1, r, q⟩ => ⟨I1.kIn, ?_⟩) he hpl
  have r2 := r.append hd
  refine wpAny_call (codeAny_mono (go_call F hr fr hx I1 (hb s1 us I1.kIn (by rw [← r2.length]; exact F.many _ _ _ _ q)) r2 q) fun r s' z => ?_)
  rcases r with _ | (_ | _ | _ | _) <;> first | exact z | exact z.elim
theorem pe_go (C : Cg X.prog X.w X.K X.mg X.base CX0 x ps dvs lv sp) (hr : Room lv X.A) (fr : Free X.A) (hg : Gl X x) (ha : PA X (e :: es) t) (hdb : (x == ("__debug__" : Str)) = false := by decide)
    (he : starEach (e :: es) X.env = (false, eval e X.env) :: starEach es X.env := by rfl) (hpl : (backTo pos (starEach es X.env)).any (·.1) = false := by rfl) : PE X (.Call (.Name x p) (e :: es) [] pos) (tCall sp dvs E0 t) :=
  pe_gox C hr fr pass0 hg ha hdb he hpl
end
/-! ### repr of data -/
def rRepr (K : PySem.W.Frag) : List V → Hp → VK → Prop := fun xs H Q => ∃ v d, xs = [v] ∧ Dp K H v d ∧ PyData.showable d = true ∧ PyData.hasDict d = false ∧ PyData.depth d < 40 ∧ (PyData.shown d).length ≤ sizeLine ∧ Q (.str (PyData.shown d)) H
theorem cr_repr {X : Cx} (fr : Free X.A) (hu : X.A.units + 64 < cLine) : CallR X (.builtin "repr") (rRepr X.K) := by
  intro pins s σ H xs us Q I r h
  obtain ⟨v, d, rfl, hd, hs, hn, hdp, hz, q⟩ := h
  obtain ⟨u, rfl, ru⟩ := vals1 r
  obtain ⟨as, rd⟩ := Dp.reads I d v u hd ru
  cases hd with
  | non =>
    cases (show u = Value.none from ru)
    exact P.repr_of_none ⟨.str _, H, I.tok _, ⟨_, rfl⟩, q⟩
  | bl b =>
    cases (show u = Value.bool b from ru)
    refine P.repr_of_bool ⟨.str _, H, I.tok _, ⟨_, rfl⟩, ?_⟩
    cases b <;> exact q
  | int i =>
    obtain ⟨t, rfl⟩ := (show ∃ t, u = Value.int i t from ru)
    exact P.repr_of_int (of_decide_eq_true hs) ⟨.str _, H, I.tok _, ⟨_, rfl⟩, q⟩
  | str x =>
    obtain ⟨t, rfl⟩ := (show ∃ t, u = Value.str x t from ru)
    exact P.repr_of_str ⟨.str _, H, I.tok _, ⟨_, rfl⟩, q⟩ hz
  | lst _ _ =>
    cases (show u = Value.ref _ from ru)
    exact repr_of_reads' rd hs (PyData.noDict_hsm hn) fr (by omega) (fun _ _ e => e) (fun h' t tk k => ⟨.str _, H, I.kept k, ⟨_, rfl⟩, q⟩) hz
  | tup _ _ =>
    cases (show u = Value.ref _ from ru)
    exact repr_of_reads' rd hs (PyData.noDict_hsm hn) fr (by omega) (fun _ _ e => e) (fun h' t tk k => ⟨.str _, H, I.kept k, ⟨_, rfl⟩, q⟩) hz
/-! ### the law's own call -/
section
variable {P : Program} {w : World} {K : PySem.W.Frag} {mg : Str → Option Value} {CX : CXT}
/-- from a heap H in which nothing but the script at a may be tracked -/
theorem law_from {mb : Str → Option Value} {k : Nat} {fa a : Addr} {fd : FuncData} {x : Str} {sp : Sp} {s : Shared} {vs : List Value} {H : Hp}
    (inK : K.In s.heap) (globs : s.heap.Ns mainGlobals mg) (blt : s.heap.Ns builtinsNs mb) (same : ∀ x : Str, x ≠ "__name__" → mb x = bootBuiltins x) (lim : s.heap.NoLimit) (bare : s.gens = #[])
    (obj : s.heap.get? a = some { cls := .type "list", data := .seq vs.toArray }) (room : Room k callerA) (F : ∀ base : Heap, K.In base → base.Ns mainGlobals mg → FnG P w K mg base CX k fa fd [x] sp) (bind : ∀ (s : Shared) (u : Value), BindsTo s fd ⟨[u], []⟩ [(x, u)])
    (none_else : ∀ b u, H b = some u → b = a ∧ (∃ o xs, u = .frz o (.lst xs)) ∧ K.lookup a = none) (ok : HOk P w H s.heap) (hsp : sp [.ref a] H (fun v _ => v = .bl true) fun _ _ _ => False)
    (hCX : ∀ e s', CX [] H s (fun _ _ _ => False) e s' → False) :
    codeAny (model P w) callerA (.call (.ref fa) ⟨[.ref a], []⟩) (fun r s' => r = .ok (.ret (.bool true)) ∧ OldK s.heap s'.heap ∧ s'.os = s.os ∧ AllBare s'.gens) s := by
  have free_of : ∀ b, b ≠ a → H b = none := fun b n => by
    rcases e : H b with _ | u
    · rfl
    · exact absurd (none_else b u e).1 n
  have low : ∀ {b o}, s.heap.get? b = some o → H b = none → (hidT s.heap H).get? b = some o := fun e n => hidT_get e n
  have dicts : ∀ {b : Addr} {m : Str → Option Value}, s.heap.Ns b m → (hidT s.heap H).Ns b m := fun {b m} ⟨o, es, ep, e, d, r⟩ => by
    refine ⟨o, es, ep, low e (free_of b fun z => ?_), d, r⟩
    rw [z, obj] at e
    cases e
    exact nomatch (show Data.seq vs.toArray _ = Data.dict es ep from d)
  have kin : K.In (hidT s.heap H) := fun b o e => low (inK b o e) (by
    rcases q : H b with _ | u
    · rfl
    · obtain ⟨rfl, _, z⟩ := none_else b u q
      rw [z] at e
      cases e)
  have modl : Mod K mg (hidT s.heap H) := ⟨kin, dicts globs, ⟨mb, dicts blt, same⟩, let ⟨mc, h1, h2⟩ := lim; ⟨mc, dicts h1, h2⟩⟩
  have env : Env0 P w K mg (hidT s.heap H) callerA [] s H := ⟨rfl, modl, fun b o e => of_hidT e, Nat.le_of_eq (hidT_size _ _), trivial, fun b hb => (nomatch hb), ok, .of_eq bare⟩
  refine codeAny_mono ((F _ kin (dicts globs)).go callerA [] s H ⟨[.ref a], []⟩ [.ref a] [.ref a] _ _ room rfl env (bind s (.ref a)) (.cons rfl .nil) hsp) fun r s' out => ?_
  rcases r with e | fl
  · exact (hCX e s' out).elim
  · rcases fl with _ | _ | _ | u <;> try exact False.elim out
    obtain ⟨v, H', os, b', un, ok', rv, hv⟩ := out
    obtain rfl : v = .bl true := hv
    obtain rfl : u = Value.bool true := rv
    refine ⟨rfl, OldK.of_keep fun b o e => ?_, os, b'⟩
    rcases q : H b with _ | z
    · exact un.keep b o e q (fun m => nomatch m) (by simp)
    · obtain ⟨_, ⟨o1, xs, rfl⟩, _⟩ := none_else b z q
      have z2 := un.frzs b o1 _ q
      have old := (ok b _ q).1
      rw [e] at old
      cases old
      exact (ok' b _ z2).1
theorem law_go {mb : Str → Option Value} {k : Nat} {fa a : Addr} {fd : FuncData} {x : Str} {sp : Sp} {s : Shared} {vs : List Value} {ns : List Int}
    (inK : K.In s.heap) (globs : s.heap.Ns mainGlobals mg) (blt : s.heap.Ns builtinsNs mb) (same : ∀ x : Str, x ≠ "__name__" → mb x = bootBuiltins x) (lim : s.heap.NoLimit) (bare : s.gens = #[])
    (obj : s.heap.get? a = some { cls := .type "list", data := .seq vs.toArray }) (ivs : IntsAre vs ns) (size : ns.length ≤ sizeLine) (room : Room k callerA) (F : ∀ base : Heap, K.In base → base.Ns mainGlobals mg → FnG P w K mg base CX k fa fd [x] sp) (bind : ∀ (s : Shared) (u : Value), BindsTo s fd ⟨[u], []⟩ [(x, u)])
    (hsp : ∀ H : Hp, SqL K H a (ns.map V.int) → sp [.ref a] H (fun v _ => v = .bl true) fun _ _ _ => False) (hCX : ∀ H e s', CX [] H s (fun _ _ _ => False) e s' → False) :
    codeAny (model P w) callerA (.call (.ref fa) ⟨[.ref a], []⟩) (fun r s' => r = .ok (.ret (.bool true)) ∧ OldK s.heap s'.heap ∧ s'.os = s.os ∧ AllBare s'.gens) s := by
  have rv := vals_ints ivs
  have cnt := ivs.length
  rcases own : K.lookup a with _ | o
  · refine law_from (H := fun b => if b = a then some (.frz { cls := .type "list", data := .seq vs.toArray } (.lst (ns.map V.int))) else none) inK globs blt same lim bare obj room F bind (fun b u e => ?_) (fun b u e => ?_)
      (hsp _ (.inl (.inr ⟨_, if_pos rfl⟩))) (fun e s' => hCX _ e s')
    · by_cases hb : b = a
      · rw [if_pos hb] at e
        exact ⟨hb, ⟨_, _, (Option.some.inj e).symm⟩, own⟩
      · rw [if_neg hb] at e
        cases e
    · by_cases hb : b = a
      · subst hb
        have e' := (if_pos rfl).symm.trans e
        cases e'
        exact ⟨obj, by rw [List.length_map]; exact size, vs, _, rv, obj⟩
      · have e' := (if_neg hb).symm.trans e
        cases e'
  · have w0 := inK a o own
    rw [obj] at w0
    cases w0
    exact law_from (H := fun _ => none) inK globs blt same lim bare obj room F bind (fun b u e => (nomatch e)) (fun b u e => (nomatch e))
      (hsp _ (.inr ⟨_, vs.toArray, _, own, rfl, rfl, rfl, by rw [List.size_toArray, cnt]; exact size, by simpa using rv⟩)) (fun e s' => hCX _ e s')
end
theorem walk_go {l : PySem.W.OpenLaw} {n k : Nat} {q : Program} {loose : List Str} {XP : (Str → Option Value) → Heap → Prop} {YP : World → Heap → Prop} {d : DefRec} {K : Params → PySem.W.Frag} {sp : World → Sp} {x : Str}
    (most : l.most = some n) (small : n ≤ sizeLine) (nodf : d.params.defaults = []) (room : Room k callerA) (hY : ∀ (w : World) (h : Heap), YP w h → (K w.params).In h)
    (F : ∀ (w : World) (mg : Str → Option Value) (fa : Addr) (h : Heap), (K w.params).In h → h.Ns mainGlobals mg → mg d.name = some (.ref fa) →
      ∃ fd : FuncData, (∀ (s : Shared) (u : Value), BindsTo s fd ⟨[u], []⟩ [(x, u)]) ∧ ∀ base : Heap, (K w.params).In base → base.Ns mainGlobals mg → FnG l.prog w (K w.params) mg base CX0 k fa fd [x] (sp w))
    (hsp : ∀ (w : World) (H : Hp) (a : Addr) (ns : List Int), ns.length ≤ n → SqL (K w.params) H a (ns.map V.int) → sp w [.ref a] H (fun v _ => v = .bl true) fun _ _ _ => False) :
    PySem.W.WalkO q loose XP YP l.row.toRowW d [] (fun f vs => PySem.call f vs) := by
  refine Att.attach_call most nodf fun w s₀ s₁ mg mb fa o pm cd doc a vs ns G Y _ _ _ named obj ivs len bare => ?_
  obtain ⟨fd, bind, FF⟩ := F w mg fa _ (hY w _ Y) G.T.g named
  exact law_go (hY w _ Y) G.T.g G.T.b G.T.builtins G.T.nolimit bare obj ivs (Nat.le_trans len small) room FF bind (fun H S => hsp w H a ns len S) fun H e s' z => z
end Gu

namespace K3
open PySem L2
/-! ### rows and trees -/
structure Rw where
  w : Str
  as : List L2.Key
deriving DecidableEq
def kD : L2.Key → PyData
  | .inl i => .int i
  | .inr x => .str x
def nat : L2.Key → Nat
  | .inl i => i.toNat
  | .inr _ => 0
def frm (w : Str) : List Str :=
  if w = "above" then ["side", "side"] else if w = "rises" then ["thing"] else if w = "falls" then ["thing"] else if w = "rings" then ["bell"] else if w = "not" then ["row"] else
  if w = "and" then ["row", "row"] else if w = "or" then ["row", "row"] else if w = "until" then ["row", "row"] else if w = "since" then ["row", "row"] else if w = "soon" then ["row", "count"] else
  if w = "lately" then ["row", "count"] else []
def isR (k : Str) : Bool := decide (k = "row")
def prt (r : Rw) : List (Str × L2.Key) := (frm r.w).zip r.as
def T (F : Nat → PyData) (r : Rw) : PyData := .tuple (.str r.w :: (prt r).map fun p => if isR p.1 then F (nat p.2) else kD p.2)
def led (g : Nat → Nat) (r : Rw) : Rw := ⟨r.w, (prt r).map fun p => if isR p.1 then .inl (g (nat p.2) : Nat) else p.2⟩
def rargs (r : Rw) : List Nat := ((prt r).filter fun p => isR p.1).map fun p => nat p.2
/-- what stands in a place of a row with n elder ones -/
def fitR (n : Nat) (p : Str × L2.Key) : Prop := isR p.1 = true → ∃ i : Nat, p.2 = .inl (i : Nat) ∧ i < n
structure Ok (n : Nat) (r : Rw) : Prop where
  ln : r.as.length = (frm r.w).length
  ft : ∀ p ∈ prt r, fitR n p
theorem prt_snd {r : Rw} (h : r.as.length = (frm r.w).length) : (prt r).map (·.2) = r.as := by
  unfold prt
  rw [List.map_snd_zip]
  omega
theorem zip_map_snd {α β : Type} (f : α × β → β) : ∀ (xs : List α) (ys : List β), xs.zip ((xs.zip ys).map f) = (xs.zip ys).map fun p => (p.1, f p)
  | [], _ => rfl
  | _ :: _, [] => rfl
  | x :: xs, y :: ys => by
    show (x, f (x, y)) :: xs.zip ((xs.zip ys).map f) = _
    rw [zip_map_snd f xs ys]
    rfl
theorem prt_led (g : Nat → Nat) (r : Rw) : prt (led g r) = (prt r).map fun p => (p.1, if isR p.1 then .inl (g (nat p.2) : Nat) else p.2) := zip_map_snd _ _ _
theorem len_prt {n : Nat} {r : Rw} (h : Ok n r) : (prt r).length = (frm r.w).length := by
  unfold prt
  rw [List.length_zip, h.ln, Nat.min_self]
theorem rargs_lt {n : Nat} {r : Rw} (h : Ok n r) {a : Nat} (ha : a ∈ rargs r) : a < n := by
  obtain ⟨p, hp, rfl⟩ := List.mem_map.mp ha
  obtain ⟨h1, h2⟩ := List.mem_filter.mp hp
  obtain ⟨i, e, hi⟩ := h.ft p h1 h2
  rw [e]
  exact hi
theorem mem_rargs {r : Rw} {p : Str × L2.Key} (h : p ∈ prt r) (k : isR p.1 = true) : nat p.2 ∈ rargs r := List.mem_map.mpr ⟨p, List.mem_filter.mpr ⟨h, k⟩, rfl⟩
theorem T_congr {F G : Nat → PyData} {r : Rw} (h : ∀ a ∈ rargs r, F a = G a) : T F r = T G r := by
  unfold T
  congr 2
  refine List.map_congr_left fun p hp => ?_
  by_cases k : isR p.1 = true
  · rw [if_pos k, if_pos k, h _ (mem_rargs hp k)]
  · rw [if_neg k, if_neg k]
theorem T_led (F : Nat → PyData) (g : Nat → Nat) (r : Rw) : T F (led g r) = T (fun a => F (g a)) r := by
  unfold T
  rw [prt_led, List.map_map]
  show PyData.tuple (.str r.w :: _) = _
  congr 2
  refine List.map_congr_left fun p hp => ?_
  show (if isR p.1 = true then F (nat (if isR p.1 = true then Sum.inl ((g (nat p.2) : Nat) : Int) else p.2)) else kD (if isR p.1 = true then Sum.inl ((g (nat p.2) : Nat) : Int) else p.2)) = _
  by_cases k : isR p.1 = true
  · rw [if_pos k, if_pos k, if_pos k]; rfl
  · rw [if_neg k, if_neg k, if_neg k]
theorem led_ok {n m : Nat} {g : Nat → Nat} {r : Rw} (h : Ok n r) (hg : ∀ a ∈ rargs r, g a < m) : Ok m (led g r) := by
  refine ⟨by show ((prt r).map _).length = _; rw [List.length_map, len_prt h]; rfl, fun p hp k => ?_⟩
  rw [prt_led] at hp
  obtain ⟨q, hq, rfl⟩ := List.mem_map.mp hp
  have k' : isR q.1 = true := k
  refine ⟨g (nat q.2), ?_, hg _ (mem_rargs hq k')⟩
  show (if isR q.1 = true then _ else _) = _
  rw [if_pos k']
theorem led_id {n : Nat} {g : Nat → Nat} {r : Rw} (h : Ok n r) (hg : ∀ a ∈ rargs r, g a = a) : led g r = r := by
  have e : (prt r).map (fun p => if isR p.1 then (.inl (g (nat p.2) : Nat) : L2.Key) else p.2) = (prt r).map (·.2) := by
    refine List.map_congr_left fun p hp => ?_
    by_cases k : isR p.1 = true
    · rw [if_pos k, hg _ (mem_rargs hp k)]
      obtain ⟨i, e, _⟩ := h.ft p hp k
      rw [e]; rfl
    · rw [if_neg k]
  unfold led
  rw [e, prt_snd h.ln]
theorem kD_inj : ∀ {a b : L2.Key}, kD a = kD b → a = b
  | .inl i, .inl j, h => by cases h; rfl
  | .inr x, .inr y, h => by cases h; rfl
  | .inl i, .inr y, h => by cases h
  | .inr x, .inl j, h => by cases h
theorem as_inj {F : Nat → PyData} {n : Nat} (hF : ∀ i j, i < n → j < n → F i = F j → i = j) : ∀ (f : List Str) (as bs : List L2.Key), as.length = f.length → bs.length = f.length → (∀ p ∈ f.zip as, fitR n p) → (∀ p ∈ f.zip bs, fitR n p) →
    (f.zip as).map (fun p => if isR p.1 then F (nat p.2) else kD p.2) = (f.zip bs).map (fun p => if isR p.1 then F (nat p.2) else kD p.2) → as = bs
  | [], [], [], _, _, _, _, _ => rfl
  | k :: f, a :: as, b :: bs, h1, h2, h3, h4, e => by
    obtain ⟨e1, e2⟩ := List.cons.inj e
    have t := as_inj hF f as bs (by simpa using h1) (by simpa using h2) (fun p hp => h3 p (List.mem_cons_of_mem _ hp)) (fun p hp => h4 p (List.mem_cons_of_mem _ hp)) e2
    rw [t]
    congr 1
    have fa := h3 (k, a) List.mem_cons_self
    have fb := h4 (k, b) List.mem_cons_self
    have e1 : (if isR k = true then F (nat a) else kD a) = (if isR k = true then F (nat b) else kD b) := e1
    by_cases q : isR k = true
    · rw [if_pos q, if_pos q] at e1
      obtain ⟨i, ei, hi⟩ := fa q
      obtain ⟨j, ej, hj⟩ := fb q
      have ei : a = .inl (i : Nat) := ei
      have ej : b = .inl (j : Nat) := ej
      subst ei ej
      rw [hF i j hi hj e1]
    · rw [if_neg q, if_neg q] at e1
      exact kD_inj e1
  | [], _ :: _, _, h, _, _, _, _ => by simp at h
  | [], [], _ :: _, _, h, _, _, _ => by simp at h
  | _ :: _, [], _, h, _, _, _, _ => by simp at h
  | _ :: _, _ :: _, [], _, h, _, _, _ => by simp at h
theorem T_inj {F : Nat → PyData} {n : Nat} (hF : ∀ i j, i < n → j < n → F i = F j → i = j) {r s : Rw} (hr : Ok n r) (hs : Ok n s) (e : T F r = T F s) : r = s := by
  unfold T at e
  injection e with e
  obtain ⟨e1, e2⟩ := List.cons.inj e
  injection e1 with e1
  obtain ⟨w, as⟩ := r
  obtain ⟨v, bs⟩ := s
  have e1 : w = v := e1
  subst e1
  rw [as_inj hF (frm w) as bs hr.ln hs.ln hr.ft hs.ft e2]
/-! ### trees of rows -/
def tstep (f : List PyData) (r : Rw) : List PyData := f ++ [T (fun i => f.getD i .none) r]
def trs (rows : List Rw) : List PyData := rows.foldl tstep []
def OkL (rows : List Rw) : Prop := ∀ i r, rows[i]? = some r → Ok i r
theorem trs_snoc (rows : List Rw) (r : Rw) : trs (rows ++ [r]) = trs rows ++ [T (fun i => (trs rows).getD i .none) r] := by
  unfold trs
  rw [List.foldl_append]
  rfl
theorem rev_ind {α : Type} {P : List α → Prop} (h0 : P []) (h1 : ∀ l x, P l → P (l ++ [x])) (l : List α) : P l := by
  have : ∀ m : List α, P m.reverse := fun m => by
    induction m with
    | nil => exact h0
    | cons x m ih => rw [List.reverse_cons]; exact h1 _ _ ih
  have := this l.reverse
  rwa [List.reverse_reverse] at this
theorem trs_len (rows : List Rw) : (trs rows).length = rows.length := by
  refine rev_ind (P := fun rows => (trs rows).length = rows.length) rfl (fun l x ih => ?_) rows
  rw [trs_snoc, List.length_append, List.length_append, ih]; rfl
theorem OkL.left {a b : List Rw} (h : OkL (a ++ b)) : OkL a := fun i r e => h i r (by
  rw [List.getElem?_append_left (List.getElem?_eq_some_iff.mp e).1]; exact e)
theorem OkL.last {a : List Rw} {r : Rw} (h : OkL (a ++ [r])) : Ok a.length r := h _ r (by rw [List.getElem?_append_right (Nat.le_refl _), Nat.sub_self]; rfl)
theorem OkL.snoc {a : List Rw} {r : Rw} (h : OkL a) (k : Ok a.length r) : OkL (a ++ [r]) := fun i s e => by
  by_cases hi : i < a.length
  · rw [List.getElem?_append_left hi] at e; exact h i s e
  · have hl := (List.getElem?_eq_some_iff.mp e).1
    rw [List.length_append] at hl
    have : i = a.length := by simp at hl; omega
    subst this
    rw [List.getElem?_append_right (Nat.le_refl _), Nat.sub_self] at e
    cases e
    exact k
theorem getD_lt {α : Type} {l : List α} {d : α} {i : Nat} (h : i < l.length) : l.getD i d = l[i] := by
  rw [List.getD_eq_getElem?_getD, List.getElem?_eq_getElem h]; rfl
theorem getD_app {α : Type} {l m : List α} {d : α} {i : Nat} (h : i < l.length) : (l ++ m).getD i d = l.getD i d := by
  rw [List.getD_eq_getElem?_getD, List.getD_eq_getElem?_getD, List.getElem?_append_left h]
/-- each tree by its row and all trees -/
theorem trs_at {rows : List Rw} (h : OkL rows) : ∀ {i : Nat} {r : Rw}, rows[i]? = some r → (trs rows).getD i .none = T (fun a => (trs rows).getD a .none) r := by
  revert h
  refine rev_ind (P := fun rows => OkL rows → ∀ {i : Nat} {r : Rw}, rows[i]? = some r → (trs rows).getD i .none = T (fun a => (trs rows).getD a .none) r) (fun _ i r e => by simp at e) (fun l x ih h i r e => ?_) rows
  have hl : OkL l := h.left
  rw [trs_snoc]
  by_cases hi : i < l.length
  · rw [List.getElem?_append_left hi] at e
    rw [getD_app (by rw [trs_len]; exact hi), ih hl e]
    refine T_congr fun a ha => ?_
    have := rargs_lt (hl i r e) ha
    rw [getD_app (by rw [trs_len]; omega)]
  · have hlt := (List.getElem?_eq_some_iff.mp e).1
    rw [List.length_append] at hlt
    have : i = l.length := by simp at hlt; omega
    subst this
    rw [List.getElem?_append_right (Nat.le_refl _), Nat.sub_self] at e
    obtain rfl : x = r := by simpa using e
    rw [List.getD_eq_getElem?_getD, List.getElem?_append_right (by rw [trs_len]; exact Nat.le_refl _), trs_len, Nat.sub_self, List.getElem?_cons_zero, Option.getD_some]
    refine T_congr fun a ha => ?_
    have := rargs_lt h.last ha
    rw [getD_app (by rw [trs_len]; omega)]
/-! ### within, depth, words of a tree -/
def untl (w : Str) : Bool := decide (w = "until" ∨ w = "since")
mutual
def wi (t : PyData) : PyData → Bool
  | .tuple xs => PyData.eqv t (.tuple xs) || wiA t xs
  | _ => false
def wiA (t : PyData) : List PyData → Bool
  | [] => false
  | x :: xs => wi t x || wiA t xs
end
mutual
def dp : PyData → Nat
  | .tuple (.str w :: xs) => dpA xs + (if untl w then 1 else 0)
  | _ => 0
def dpA : List PyData → Nat
  | [] => 0
  | x :: xs => max (dp x) (dpA xs)
end
mutual
def ws : PyData → List Str
  | .tuple (.str w :: xs) => w :: wsA xs
  | _ => []
def wsA : List PyData → List Str
  | [] => []
  | x :: xs => ws x ++ wsA xs
end
def mx (l : List Nat) : Nat := l.foldr max 0
theorem wi_kD (t : PyData) : ∀ k, wi t (kD k) = false
  | .inl _ => by simp [kD, wi]
  | .inr _ => by simp [kD, wi]
theorem dp_kD : ∀ k, dp (kD k) = 0
  | .inl _ => by simp [kD, dp]
  | .inr _ => by simp [kD, dp]
theorem ws_kD : ∀ k, ws (kD k) = []
  | .inl _ => by simp [kD, ws]
  | .inr _ => by simp [kD, ws]
theorem wi_T (t : PyData) (F : Nat → PyData) (r : Rw) : wi t (T F r) = (PyData.eqv t (T F r) || (rargs r).any fun a => wi t (F a)) := by
  have g : ∀ l : List (Str × L2.Key), wiA t (l.map fun p => if isR p.1 then F (nat p.2) else kD p.2) = ((l.filter fun p => isR p.1).map fun p => nat p.2).any fun a => wi t (F a) := by
    intro l
    induction l with
    | nil => simp [wiA]
    | cons p l ih =>
      rw [List.map_cons, wiA, ih]
      by_cases k : isR p.1 = true
      · rw [if_pos k, List.filter_cons_of_pos (p := fun p : Str × L2.Key => isR p.1) k, List.map_cons, List.any_cons]
      · rw [if_neg k, List.filter_cons_of_neg (p := fun p : Str × L2.Key => isR p.1) k, wi_kD, Bool.false_or]
  show (PyData.eqv t (T F r) || wiA t (.str r.w :: _)) = _
  rw [wiA, g]
  simp [wi, rargs]
theorem dp_T (F : Nat → PyData) (r : Rw) : dp (T F r) = mx ((rargs r).map fun a => dp (F a)) + (if untl r.w then 1 else 0) := by
  have g : ∀ l : List (Str × L2.Key), dpA (l.map fun p => if isR p.1 then F (nat p.2) else kD p.2) = mx (((l.filter fun p => isR p.1).map fun p => nat p.2).map fun a => dp (F a)) := by
    intro l
    induction l with
    | nil => simp [dpA, mx]
    | cons p l ih =>
      rw [List.map_cons, dpA, ih]
      by_cases k : isR p.1 = true
      · rw [if_pos k, List.filter_cons_of_pos (p := fun p : Str × L2.Key => isR p.1) k, List.map_cons, List.map_cons]; rfl
      · rw [if_neg k, List.filter_cons_of_neg (p := fun p : Str × L2.Key => isR p.1) k, dp_kD, Nat.zero_max]
  unfold T
  rw [dp, g]
  rfl
theorem ws_T (F : Nat → PyData) (r : Rw) : ws (T F r) = r.w :: (rargs r).flatMap fun a => ws (F a) := by
  have g : ∀ l : List (Str × L2.Key), wsA (l.map fun p => if isR p.1 then F (nat p.2) else kD p.2) = ((l.filter fun p => isR p.1).map fun p => nat p.2).flatMap fun a => ws (F a) := by
    intro l
    induction l with
    | nil => simp [wsA]
    | cons p l ih =>
      rw [List.map_cons, wsA, ih]
      by_cases k : isR p.1 = true
      · rw [if_pos k, List.filter_cons_of_pos (p := fun p : Str × L2.Key => isR p.1) k, List.map_cons, List.flatMap_cons]
      · rw [if_neg k, List.filter_cons_of_neg (p := fun p : Str × L2.Key => isR p.1) k, ws_kD, List.nil_append]
  unfold T
  rw [ws, g]
  rfl
/-! ### data of texts, ints, tuples: what is equal is one -/
mutual
def pu : PyData → Bool
  | .int _ => true
  | .str x => PyData.strOk x
  | .tuple xs => puA xs
  | _ => false
def puA : List PyData → Bool
  | [] => true
  | x :: xs => pu x && puA xs
end
mutual
theorem pu_eqv : ∀ d e : PyData, pu d = true → pu e = true → (PyData.eqv d e = true ↔ d = e)
  | .int i, .int j, _, _ => by simp [PyData.eqv]
  | .str x, .str y, _, _ => by simp [PyData.eqv]
  | .tuple xs, .tuple ys, h, k => by
    rw [PyData.eqv, puA_eqv xs ys (by simpa [pu] using h) (by simpa [pu] using k)]
    exact ⟨fun e => by rw [e], fun e => by injection e⟩
  | .int _, .str _, _, _ => by simp [PyData.eqv]
  | .int _, .tuple _, _, _ => by simp [PyData.eqv]
  | .str _, .int _, _, _ => by simp [PyData.eqv]
  | .str _, .tuple _, _, _ => by simp [PyData.eqv]
  | .tuple _, .int _, _, _ => by simp [PyData.eqv]
  | .tuple _, .str _, _, _ => by simp [PyData.eqv]
  | .none, _, h, _ => by simp [pu] at h
  | .bool _, _, h, _ => by simp [pu] at h
  | .list _, _, h, _ => by simp [pu] at h
  | .dict _, _, h, _ => by simp [pu] at h
  | _, .none, _, h => by simp [pu] at h
  | _, .bool _, _, h => by simp [pu] at h
  | _, .list _, _, h => by simp [pu] at h
  | _, .dict _, _, h => by simp [pu] at h
theorem puA_eqv : ∀ ds es : List PyData, puA ds = true → puA es = true → (PyData.eqvAll ds es = true ↔ ds = es)
  | [], [], _, _ => by simp [PyData.eqvAll]
  | [], _ :: _, _, _ => by simp [PyData.eqvAll]
  | _ :: _, [], _, _ => by simp [PyData.eqvAll]
  | d :: ds, e :: es, h, k => by
    obtain ⟨h1, h2⟩ : pu d = true ∧ puA ds = true := by simpa [puA] using h
    obtain ⟨k1, k2⟩ : pu e = true ∧ puA es = true := by simpa [puA] using k
    rw [PyData.eqvAll, Bool.and_eq_true, pu_eqv d e h1 k1, puA_eqv ds es h2 k2, List.cons.injEq]
end
mutual
theorem pu_can : ∀ d : PyData, pu d = true → d.canLay0 = true
  | .int _, _ => by simp [PyData.canLay0]
  | .str x, h => by simpa [PyData.canLay0, pu] using h
  | .tuple xs, h => by rw [PyData.canLay0]; exact puA_can xs (by simpa [pu] using h)
  | .none, h => by simp [pu] at h
  | .bool _, h => by simp [pu] at h
  | .list _, h => by simp [pu] at h
  | .dict _, h => by simp [pu] at h
theorem puA_can : ∀ ds : List PyData, puA ds = true → PyData.canLayAll0 ds = true
  | [], _ => by simp [PyData.canLayAll0]
  | d :: ds, h => by
    obtain ⟨h1, h2⟩ : pu d = true ∧ puA ds = true := by simpa [puA] using h
    rw [PyData.canLayAll0, pu_can d h1, puA_can ds h2]; rfl
end
theorem puA_iff : ∀ {ds : List PyData}, puA ds = true ↔ ∀ d ∈ ds, pu d = true
  | [] => by simp [puA]
  | d :: ds => by rw [puA, Bool.and_eq_true, puA_iff]; simp
end K3

namespace K3
open PySem L2
def PuR (r : Rw) : Prop := PyData.strOk r.w = true ∧ ∀ x : Str, (.inr x : L2.Key) ∈ r.as → PyData.strOk x = true
structure G (rows : List Rw) : Prop where
  ok : OkL rows
  pu : ∀ r ∈ rows, PuR r
theorem G.left {a b : List Rw} (h : G (a ++ b)) : G a := ⟨h.ok.left, fun r hr => h.pu r (List.mem_append_left _ hr)⟩
theorem G.last {a : List Rw} {r : Rw} (h : G (a ++ [r])) : PuR r := h.pu r (List.mem_append_right _ List.mem_cons_self)
theorem G.snoc {a : List Rw} {r : Rw} (h : G a) (k : Ok a.length r) (p : PuR r) : G (a ++ [r]) := ⟨h.ok.snoc k, fun s hs => by
  rcases List.mem_append.mp hs with hs | hs
  · exact h.pu s hs
  · obtain rfl : s = r := by simpa using hs
    exact p⟩
theorem prt_mem {r : Rw} {p : Str × L2.Key} (h : p ∈ prt r) : p.2 ∈ r.as := (List.of_mem_zip h).2
theorem pu_kD {x : L2.Key} (h : ∀ y : Str, x = .inr y → PyData.strOk y = true) : pu (kD x) = true := by
  cases x with
  | inl i => simp [kD, pu]
  | inr y => simp [kD, pu, h y rfl]
theorem pu_T {F : Nat → PyData} {r : Rw} (h : PuR r) (k : ∀ a ∈ rargs r, pu (F a) = true) : pu (T F r) = true := by
  unfold T
  rw [pu, puA, puA_iff.mpr, Bool.and_true]
  · rw [pu]; exact h.1
  · intro d hd
    obtain ⟨p, hp, rfl⟩ := List.mem_map.mp hd
    by_cases q : isR p.1 = true
    · rw [if_pos q]; exact k _ (mem_rargs hp q)
    · rw [if_neg q]
      exact pu_kD fun y e => h.2 y (e ▸ prt_mem hp)
theorem pu_led {g : Nat → Nat} {r : Rw} (h : PuR r) : PuR (led g r) := ⟨h.1, fun x hx => by
  obtain ⟨p, hp, e⟩ := List.mem_map.mp hx
  by_cases q : isR p.1 = true
  · rw [if_pos q] at e; cases e
  · rw [if_neg q] at e
    exact h.2 x (e ▸ prt_mem hp)⟩
theorem trs_pu {rows : List Rw} (h : G rows) : ∀ t ∈ trs rows, pu t = true := by
  revert h
  refine rev_ind (P := fun rows => G rows → ∀ t ∈ trs rows, pu t = true) (fun _ t ht => by cases ht) (fun l x ih h t ht => ?_) rows
  rw [trs_snoc] at ht
  rcases List.mem_append.mp ht with ht | ht
  · exact ih h.left t ht
  · obtain rfl := List.mem_singleton.mp ht
    refine pu_T h.last fun a ha => ?_
    have := rargs_lt h.ok.last ha
    rw [getD_lt (by rw [trs_len]; exact this)]
    exact ih h.left _ (List.getElem_mem _)
/-! ### the first of alike ones -/
def hasE (acc : List PyData) (t : PyData) : Bool := acc.any fun z => PyData.eqv z t
theorem hasE_iff {acc : List PyData} {t : PyData} (h : ∀ z ∈ acc, pu z = true) (k : pu t = true) : hasE acc t = true ↔ t ∈ acc := by
  unfold hasE
  rw [List.any_eq_true]
  constructor
  · rintro ⟨z, hz, e⟩
    rw [pu_eqv z t (h z hz) k] at e
    exact e ▸ hz
  · intro ht
    exact ⟨t, ht, (pu_eqv t t k k).mpr rfl⟩
def dstep (acc : List PyData) (t : PyData) : List PyData := if hasE acc t = true then acc else acc ++ [t]
def dedF (ts : List PyData) : List PyData := ts.foldl dstep []
theorem dedF_snoc (ts : List PyData) (t : PyData) : dedF (ts ++ [t]) = dstep (dedF ts) t := by
  unfold dedF
  rw [List.foldl_append]; rfl
theorem mem_dedF {ts : List PyData} : (∀ t ∈ ts, pu t = true) → ∀ x, x ∈ dedF ts ↔ x ∈ ts := by
  refine rev_ind (P := fun ts => (∀ t ∈ ts, pu t = true) → ∀ x, x ∈ dedF ts ↔ x ∈ ts) (fun _ x => Iff.rfl) (fun l y ih h x => ?_) ts
  have hl : ∀ t ∈ l, pu t = true := fun t ht => h t (List.mem_append_left _ ht)
  have hy := h y (List.mem_append_right _ List.mem_cons_self)
  have il := ih hl
  have hd : ∀ z ∈ dedF l, pu z = true := fun z hz => hl z ((il z).mp hz)
  rw [dedF_snoc, dstep]
  by_cases q : hasE (dedF l) y = true
  · rw [if_pos q, il]
    have := (il y).mp ((hasE_iff hd hy).mp q)
    constructor
    · exact fun k => List.mem_append_left _ k
    · intro k
      rcases List.mem_append.mp k with k | k
      · exact k
      · obtain rfl : x = y := by simpa using k
        exact this
  · rw [if_neg q, List.mem_append, List.mem_append, il]
/-- what the law keeps of trees: first ones within the last -/
def dueL (ts : List PyData) (last : PyData) : Nat → List PyData
  | 0 => []
  | i + 1 => let t := ts.getD i .none
    if (!hasE (ts.take i) t && wi t last) = true then dueL ts last i ++ [t] else dueL ts last i
theorem dueL_eq {ts : List PyData} (h : ∀ t ∈ ts, pu t = true) (last : PyData) : ∀ i, i ≤ ts.length → dueL ts last i = (dedF (ts.take i)).filter fun t => wi t last
  | 0, _ => rfl
  | i + 1, hi => by
    have ih := dueL_eq h last i (by omega)
    have hi' : i < ts.length := by omega
    have e : ts.take (i + 1) = ts.take i ++ [ts.getD i .none] := by rw [List.take_add_one, List.getElem?_eq_getElem hi', getD_lt hi']; rfl
    have ht : pu (ts.getD i .none) = true := by rw [getD_lt hi']; exact h _ (List.getElem_mem _)
    have hp : ∀ z ∈ ts.take i, pu z = true := fun z hz => h z (List.mem_of_mem_take hz)
    have hd : ∀ z ∈ dedF (ts.take i), pu z = true := fun z hz => hp z ((mem_dedF hp z).mp hz)
    rw [e, dedF_snoc, dstep, dueL]
    have q : hasE (dedF (ts.take i)) (ts.getD i .none) = hasE (ts.take i) (ts.getD i .none) := Bool.eq_iff_iff.mpr (by rw [hasE_iff hd ht, hasE_iff hp ht, mem_dedF hp])
    rw [q, ih]
    by_cases a : hasE (ts.take i) (ts.getD i .none) = true
    · rw [if_pos a, a]; rfl
    · have a' : hasE (ts.take i) (ts.getD i .none) = false := by simpa using a
      simp only [a', Bool.not_false, Bool.true_and, Bool.false_eq_true, if_false]
      rw [List.filter_append]
      by_cases b : wi (ts.getD i .none) last = true
      · rw [if_pos b, List.filter_cons_of_pos (p := fun t => wi t last) b]; rfl
      · rw [if_neg b, List.filter_cons_of_neg (p := fun t => wi t last) b, List.filter_nil, List.append_nil]
/-! ### rows, each once -/
def step (s : List Rw × List Nat) (r : Rw) : List Rw × List Nat :=
  let l := led (fun a => s.2.getD a 0) r
  if l ∈ s.1 then (s.1, s.2 ++ [s.1.idxOf l]) else (s.1 ++ [l], s.2 ++ [s.1.length])
def uniq (rows : List Rw) : List Rw × List Nat := rows.foldl step ([], [])
theorem uniq_snoc (rows : List Rw) (r : Rw) : uniq (rows ++ [r]) = step (uniq rows) r := by
  unfold uniq
  rw [List.foldl_append]; rfl
structure UI (rows u : List Rw) (nums : List Nat) : Prop where
  len : nums.length = rows.length
  lt : ∀ i, i < rows.length → nums.getD i 0 < u.length
  eq : ∀ i, i < rows.length → (trs u).getD (nums.getD i 0) .none = (trs rows).getD i .none
  g : G u
  nd : (trs u).Nodup
  dd : trs u = dedF (trs rows)
  le : u.length ≤ rows.length
theorem nd_inj {l : List PyData} (h : l.Nodup) : ∀ i j, i < l.length → j < l.length → l.getD i .none = l.getD j .none → i = j := fun i j hi hj e => by
  rw [getD_lt hi, getD_lt hj] at e
  exact (List.getElem_inj h).mp e
theorem nums_at {α : Type} {l : List α} {x d : α} {i : Nat} (h : i < (l ++ [x]).length) : (i < l.length ∧ (l ++ [x]).getD i d = l.getD i d) ∨ (i = l.length ∧ (l ++ [x]).getD i d = x) := by
  by_cases q : i < l.length
  · exact .inl ⟨q, getD_app q⟩
  · have : i = l.length := by simp at h; omega
    subst this
    refine .inr ⟨rfl, ?_⟩
    rw [List.getD_eq_getElem?_getD, List.getElem?_append_right (Nat.le_refl _), Nat.sub_self]; rfl
theorem uniq_inv {rows : List Rw} (h : G rows) : UI rows (uniq rows).1 (uniq rows).2 := by
  revert h
  refine rev_ind (P := fun rows => G rows → UI rows (uniq rows).1 (uniq rows).2) (fun _ => ⟨rfl, fun i hi => absurd hi (Nat.not_lt_zero _), fun i hi => absurd hi (Nat.not_lt_zero _), ⟨(fun i r e => by cases e), (fun r hr => by cases hr)⟩, List.nodup_nil, rfl, Nat.le_refl _⟩) (fun l r ih h => ?_) rows
  have I := ih h.left
  rw [uniq_snoc]
  generalize uniq l = s at I ⊢
  obtain ⟨u, nums⟩ := s
  have I : UI l u nums := I
  have hr := h.ok.last
  have hp := h.last
  have okl : Ok u.length (led (fun a => nums.getD a 0) r) := led_ok hr fun a ha => I.lt a (rargs_lt hr ha)
  have pul : PuR (led (fun a => nums.getD a 0) r) := pu_led hp
  have et : T (fun a => (trs u).getD a .none) (led (fun a => nums.getD a 0) r) = T (fun a => (trs l).getD a .none) r := by
    rw [T_led]
    exact T_congr fun a ha => I.eq a (rargs_lt hr ha)
  have pl := trs_pu h.left
  have pt : pu (T (fun a => (trs l).getD a .none) r) = true := trs_pu h _ (by rw [trs_snoc]; exact List.mem_append_right _ List.mem_cons_self)
  have pdd : ∀ z ∈ dedF (trs l), pu z = true := fun z hz => pl z ((mem_dedF pl z).mp hz)
  unfold step
  dsimp only
  generalize hl : led (fun a => nums.getD a 0) r = w at okl pul et ⊢
  by_cases q : w ∈ u
  · rw [if_pos q]
    have hk : u.idxOf w < u.length := List.idxOf_lt_length_iff.mpr q
    have uk : u[u.idxOf w]? = some w := by rw [List.getElem?_eq_getElem hk, List.getElem_idxOf]
    have tk : (trs u).getD (u.idxOf w) .none = T (fun a => (trs l).getD a .none) r := by rw [trs_at I.g.ok uk, et]
    refine ⟨by simp [I.len], fun i hi => ?_, fun i hi => ?_, I.g, I.nd, ?_, by show u.length ≤ _; rw [List.length_append]; have := I.le; omega⟩
    · show (nums ++ [u.idxOf w]).getD i 0 < u.length
      rcases nums_at (l := nums) (x := u.idxOf w) (d := 0) (i := i) (by simpa [I.len] using hi) with ⟨a, e⟩ | ⟨a, e⟩ <;> rw [e]
      · exact I.lt i (by rw [← I.len]; exact a)
      · exact hk
    · show (trs u).getD ((nums ++ [u.idxOf w]).getD i 0) .none = _
      rw [trs_snoc]
      rcases nums_at (l := nums) (x := u.idxOf w) (d := 0) (i := i) (by simpa [I.len] using hi) with ⟨a, e⟩ | ⟨a, e⟩ <;> rw [e]
      · rw [I.len] at a
        rw [I.eq i a, getD_app (by rw [trs_len]; exact a)]
      · rw [a, I.len, ← trs_len l, tk, List.getD_eq_getElem?_getD, List.getElem?_append_right (Nat.le_refl _), Nat.sub_self]; rfl
    · rw [trs_snoc, dedF_snoc, dstep, if_pos, I.dd]
      rw [hasE_iff pdd pt, ← I.dd, ← tk, getD_lt (by rw [trs_len]; exact hk)]
      exact List.getElem_mem _
  · rw [if_neg q]
    have nt : T (fun a => (trs l).getD a .none) r ∉ trs u := fun hm => by
      obtain ⟨k, hk, e⟩ := List.mem_iff_getElem.mp hm
      have hk' : k < u.length := by rw [← trs_len u]; exact hk
      have e2 : (trs u).getD k .none = T (fun a => (trs u).getD a .none) u[k] := trs_at I.g.ok (List.getElem?_eq_getElem hk')
      rw [getD_lt hk, e, ← et] at e2
      have okk : Ok k u[k] := I.g.ok k _ (List.getElem?_eq_getElem hk')
      have okk' : Ok u.length u[k] := ⟨okk.ln, fun p hp z => let ⟨i, e, hi⟩ := okk.ft p hp z; ⟨i, e, by omega⟩⟩
      have := T_inj (n := u.length) (fun i j hi hj e => nd_inj I.nd i j (by rw [trs_len]; exact hi) (by rw [trs_len]; exact hj) e) okl okk' e2
      exact q (this ▸ List.getElem_mem _)
    have ht : trs (u ++ [w]) = trs u ++ [T (fun a => (trs l).getD a .none) r] := by rw [trs_snoc, et]
    refine ⟨by simp [I.len], fun i hi => ?_, fun i hi => ?_, I.g.snoc okl pul, ?_, ?_, by rw [List.length_append, List.length_append]; have := I.le; simp; omega⟩
    · show (nums ++ [u.length]).getD i 0 < (u ++ [w]).length
      rcases nums_at (l := nums) (x := u.length) (d := 0) (i := i) (by simpa [I.len] using hi) with ⟨a, e⟩ | ⟨a, e⟩ <;> rw [e, List.length_append]
      · have := I.lt i (by rw [← I.len]; exact a); omega
      · simp
    · show (trs (u ++ [w])).getD ((nums ++ [u.length]).getD i 0) .none = _
      rw [trs_snoc l, ht]
      rcases nums_at (l := nums) (x := u.length) (d := 0) (i := i) (by simpa [I.len] using hi) with ⟨a, e⟩ | ⟨a, e⟩ <;> rw [e]
      · rw [I.len] at a
        rw [getD_app (by rw [trs_len]; exact I.lt i a), I.eq i a, getD_app (by rw [trs_len]; exact a)]
      · rw [a, I.len, ← trs_len l, ← trs_len u, List.getD_eq_getElem?_getD, List.getD_eq_getElem?_getD, List.getElem?_append_right (Nat.le_refl _), List.getElem?_append_right (Nat.le_refl _), Nat.sub_self, Nat.sub_self]
    · rw [ht]
      refine List.nodup_append.mpr ⟨I.nd, by simp, fun a ha b hb => ?_⟩
      obtain rfl := List.mem_singleton.mp hb
      exact fun z => nt (z ▸ ha)
    · rw [trs_snoc l, dedF_snoc, dstep, if_neg, ht, I.dd]
      rw [hasE_iff pdd pt, ← I.dd]
      exact nt
end K3

namespace K3
open PySem L2 St
def r0 : Rw := ⟨"", []⟩
/-- the rows on which one hangs -/
def ndl (u : List Rw) : Nat → List Nat → List Nat
  | 0, acc => acc
  | k + 1, acc => ndl u k (if k ∈ acc then acc ++ rargs (u.getD k r0) else acc)
theorem frm_len (w : Str) : (frm w).length ≤ 2 := by
  unfold frm
  repeat' split
  all_goals decide
theorem rargs_len (r : Rw) : (rargs r).length ≤ 2 := by
  unfold rargs prt
  rw [List.length_map]
  refine Nat.le_trans (List.length_filter_le _ _) ?_
  rw [List.length_zip]
  exact Nat.le_trans (Nat.min_le_left _ _) (frm_len _)
theorem ndl_len (u : List Rw) : ∀ m acc, (ndl u m acc).length ≤ acc.length + 2 * m
  | 0, acc => Nat.le_refl _
  | k + 1, acc => by
    refine Nat.le_trans (ndl_len u k _) ?_
    by_cases h : k ∈ acc
    · rw [if_pos h, List.length_append]
      have := rargs_len (u.getD k r0)
      omega
    · rw [if_neg h]; omega
section
variable {u : List Rw}
def tu (u : List Rw) (k : Nat) : PyData := (trs u).getD k .none
theorem tu_T (g : G u) {k : Nat} (h : k < u.length) : tu u k = T (tu u) (u.getD k r0) := trs_at g.ok (by rw [getD_lt h, List.getElem?_eq_getElem h])
theorem u_ok (g : G u) {k : Nat} (h : k < u.length) : Ok k (u.getD k r0) := g.ok k _ (by rw [getD_lt h, List.getElem?_eq_getElem h])
theorem tu_pu (g : G u) {k : Nat} (h : k < u.length) : pu (tu u k) = true := by
  unfold tu
  rw [getD_lt (by rw [trs_len]; exact h)]
  exact trs_pu g _ (List.getElem_mem _)
def W (u : List Rw) (j k : Nat) : Prop := wi (tu u j) (tu u k) = true
theorem tu_inj (nd : (trs u).Nodup) {i j : Nat} (hi : i < u.length) (hj : j < u.length) (e : tu u i = tu u j) : i = j := nd_inj nd i j (by rw [trs_len]; exact hi) (by rw [trs_len]; exact hj) e
theorem W_iff (g : G u) (nd : (trs u).Nodup) {j k : Nat} (hj : j < u.length) (hk : k < u.length) : W u j k ↔ j = k ∨ ∃ a ∈ rargs (u.getD k r0), W u j a := by
  unfold W
  rw [tu_T g hk, wi_T, ← tu_T g hk, Bool.or_eq_true, pu_eqv _ _ (tu_pu g hj) (tu_pu g hk), List.any_eq_true]
  exact ⟨fun h => h.elim (fun e => .inl (tu_inj nd hj hk e)) .inr, fun h => h.elim (fun e => .inl (by rw [e])) .inr⟩
theorem W_le (g : G u) (nd : (trs u).Nodup) : ∀ (n : Nat) {j k : Nat}, k < n → j < u.length → k < u.length → W u j k → j ≤ k
  | 0, _, _, h, _, _, _ => absurd h (Nat.not_lt_zero _)
  | n + 1, j, k, h, hj, hk, w => by
    rcases (W_iff g nd hj hk).mp w with e | ⟨a, ha, w⟩
    · omega
    · have := rargs_lt (u_ok g hk) ha
      have := W_le g nd n (by omega) hj (by omega) w
      omega
theorem W_trans (g : G u) (nd : (trs u).Nodup) : ∀ (n : Nat) {i j k : Nat}, k < n → i < u.length → j < u.length → k < u.length → W u i j → W u j k → W u i k
  | 0, _, _, _, h, _, _, _, _, _ => absurd h (Nat.not_lt_zero _)
  | n + 1, i, j, k, h, hi, hj, hk, w1, w2 => by
    rcases (W_iff g nd hj hk).mp w2 with e | ⟨a, ha, w⟩
    · exact e ▸ w1
    · have := rargs_lt (u_ok g hk) ha
      exact (W_iff g nd hi hk).mpr (.inr ⟨a, ha, W_trans g nd n (by omega) hi hj (by omega) w1 w⟩)
theorem W_refl (g : G u) (nd : (trs u).Nodup) {k : Nat} (hk : k < u.length) : W u k k := (W_iff g nd hk hk).mpr (.inl rfl)
theorem ndl_inv (g : G u) (nd : (trs u).Nodup) {last : Nat} (hl : last < u.length) : ∀ (m : Nat) (acc : List Nat), (∀ j ∈ acc, j ≤ last ∧ W u j last) → last ∈ acc → (∀ k ∈ acc, m ≤ k → ∀ a ∈ rargs (u.getD k r0), a ∈ acc) →
    (∀ j ∈ ndl u m acc, j ≤ last ∧ W u j last) ∧ last ∈ ndl u m acc ∧ ∀ k ∈ ndl u m acc, ∀ a ∈ rargs (u.getD k r0), a ∈ ndl u m acc
  | 0, acc, h1, h2, h3 => ⟨h1, h2, fun k hk => h3 k hk (Nat.zero_le _)⟩
  | m + 1, acc, h1, h2, h3 => by
    unfold ndl
    by_cases q : m ∈ acc
    · rw [if_pos q]
      have hm := h1 m q
      have hmu : m < u.length := by omega
      refine ndl_inv g nd hl m _ (fun j hj => ?_) (List.mem_append_left _ h2) fun k hk hmk a ha => ?_
      · rcases List.mem_append.mp hj with hj | hj
        · exact h1 j hj
        · have := rargs_lt (u_ok g hmu) hj
          refine ⟨by omega, W_trans g nd u.length (j := m) hl (by omega) hmu hl ((W_iff g nd (by omega) hmu).mpr (.inr ⟨j, hj, W_refl g nd (by omega)⟩)) hm.2⟩
      · rcases List.mem_append.mp hk with hk | hk
        · by_cases e : k = m
          · subst e; exact List.mem_append_right _ ha
          · exact List.mem_append_left _ (h3 k hk (by omega) a ha)
        · have := rargs_lt (u_ok g hmu) hk
          omega
    · rw [if_neg q]
      refine ndl_inv g nd hl m _ h1 h2 fun k hk hmk a ha => h3 k hk ?_ a ha
      rcases Nat.lt_or_eq_of_le hmk with z | z
      · exact z
      · exact absurd (z ▸ hk) q
theorem ndl_iff (g : G u) (nd : (trs u).Nodup) {last : Nat} (hl : last < u.length) (j : Nat) : j ∈ ndl u (last + 1) [last] ↔ j < u.length ∧ W u j last := by
  obtain ⟨h1, h2, h3⟩ := ndl_inv g nd hl (last + 1) [last] (fun j hj => by obtain rfl := List.mem_singleton.mp hj; exact ⟨Nat.le_refl _, W_refl g nd hl⟩) List.mem_cons_self (fun k hk h => by obtain rfl := List.mem_singleton.mp hk; omega)
  constructor
  · intro hj
    have := h1 j hj
    exact ⟨by omega, this.2⟩
  · rintro ⟨hj, w⟩
    have go : ∀ (n k : Nat), k < n → k < u.length → k ∈ ndl u (last + 1) [last] → W u j k → j ∈ ndl u (last + 1) [last] := by
      intro n
      induction n with
      | zero => exact fun k h => absurd h (Nat.not_lt_zero _)
      | succ n ih =>
        intro k h hk hm w
        rcases (W_iff g nd hj hk).mp w with e | ⟨a, ha, w⟩
        · exact e ▸ hm
        · have := rargs_lt (u_ok g hk) ha
          exact ih a (by omega) (by omega) (h3 k hm a ha) w
    exact go _ last (Nat.lt_succ_self _) hl h2 w
end
/-! ### tidy rows -/
def keptL (u : List Rw) (last : Nat) : List Nat := (List.range u.length).filter fun j => decide (j ∈ ndl u (last + 1) [last])
def tidyBy (u : List Rw) (last : Nat) : List Rw := (keptL u last).map fun k => led (fun a => (keptL u last).idxOf a) (u.getD k r0)
def lastN (l : List Nat) : Nat := l.getD (l.length - 1) 0
def tidyR (rows : List Rw) : List Rw := tidyBy (uniq rows).1 (lastN (uniq rows).2)
section
variable {u : List Rw} {last : Nat}
theorem mem_kept (g : G u) (nd : (trs u).Nodup) (hl : last < u.length) {j : Nat} : j ∈ keptL u last ↔ j < u.length ∧ W u j last := by
  unfold keptL
  rw [List.mem_filter, List.mem_range, decide_eq_true_iff, ndl_iff g nd hl]
  exact ⟨fun h => h.2, fun h => ⟨h.1, h⟩⟩
theorem kept_asc (u : List Rw) (last : Nat) : (keptL u last).Pairwise (· < ·) := List.Pairwise.filter _ List.pairwise_lt_range
theorem kept_int (g : G u) (nd : (trs u).Nodup) (hl : last < u.length) : (keptL u last).map (fun (k : Nat) => (k : Int)) = lotI ((ndl u (last + 1) [last]).map fun (k : Nat) => (k : Int)) := by
  refine lotI_eq ?_ fun x => ?_
  · rw [List.pairwise_map]
    exact (kept_asc u last).imp fun h => by omega
  · rw [List.mem_map, List.mem_map]
    refine exists_congr fun k => and_congr_left fun _ => ?_
    rw [mem_kept g nd hl, ndl_iff g nd hl]
theorem idx_lt {p q : List Nat} {a : Nat} (h : a ∈ p) : (p ++ q).idxOf a = p.idxOf a ∧ p.idxOf a < p.length := ⟨by rw [List.idxOf_append, if_pos h], List.idxOf_lt_length_iff.mpr h⟩
theorem kept_child (g : G u) (nd : (trs u).Nodup) (hl : last < u.length) {p q : List Nat} {k : Nat} (e : keptL u last = p ++ k :: q) {a : Nat} (ha : a ∈ rargs (u.getD k r0)) : a ∈ p ∧ a < k := by
  have hk : k ∈ keptL u last := by rw [e]; simp
  obtain ⟨hku, w⟩ := (mem_kept g nd hl).mp hk
  have hak := rargs_lt (u_ok g hku) ha
  have hm : a ∈ keptL u last := (mem_kept g nd hl).mpr ⟨by omega, W_trans g nd u.length (j := k) hl (by omega) hku hl ((W_iff g nd (by omega) hku).mpr (.inr ⟨a, ha, W_refl g nd (by omega)⟩)) w⟩
  refine ⟨?_, hak⟩
  rw [e] at hm
  rcases List.mem_append.mp hm with h | h
  · exact h
  · exfalso
    have asc := kept_asc u last
    rw [e, List.pairwise_append] at asc
    rcases List.mem_cons.mp h with z | z
    · omega
    · have := (List.pairwise_cons.mp asc.2.1).1 a z
      omega
theorem tidy_pre (g : G u) (nd : (trs u).Nodup) (hl : last < u.length) : ∀ p q : List Nat, keptL u last = p ++ q →
    G (p.map fun k => led (fun a => (keptL u last).idxOf a) (u.getD k r0)) ∧ trs (p.map fun k => led (fun a => (keptL u last).idxOf a) (u.getD k r0)) = p.map (tu u) := by
  intro p
  refine rev_ind (P := fun p => ∀ q : List Nat, keptL u last = p ++ q → G (p.map fun k => led (fun a => (keptL u last).idxOf a) (u.getD k r0)) ∧ trs (p.map fun k => led (fun a => (keptL u last).idxOf a) (u.getD k r0)) = p.map (tu u))
    (fun _ _ => ⟨⟨(fun i r e => by cases e), (fun r hr => by cases hr)⟩, rfl⟩) (fun p k ih q e => ?_) p
  rw [List.append_assoc] at e
  have e : keptL u last = p ++ k :: q := e
  obtain ⟨g1, t1⟩ := ih _ e
  have hk : k ∈ keptL u last := by rw [e]; simp
  obtain ⟨hku, w⟩ := (mem_kept g nd hl).mp hk
  have ch := fun a ha => kept_child g nd hl (p := p) (q := q) (k := k) e (a := a) ha
  have pl : ∀ a ∈ rargs (u.getD k r0), (keptL u last).idxOf a = p.idxOf a ∧ p.idxOf a < p.length := fun a ha => by rw [e]; exact idx_lt (ch a ha).1
  have okk : Ok p.length (led (fun a => (keptL u last).idxOf a) (u.getD k r0)) := led_ok (u_ok g hku) fun a ha => by rw [(pl a ha).1]; exact (pl a ha).2
  have puk : PuR (u.getD k r0) := g.pu _ (by rw [getD_lt hku]; exact List.getElem_mem _)
  rw [List.map_append, List.map_append]
  refine ⟨g1.snoc (by rw [List.length_map]; exact okk) (pu_led puk), ?_⟩
  show trs (_ ++ [_]) = _ ++ [_]
  rw [trs_snoc, t1, T_led, tu_T g hku]
  congr 2
  refine T_congr fun a ha => ?_
  obtain ⟨e1, e2⟩ := pl a ha
  rw [e1, getD_lt (by rw [List.length_map]; exact e2), List.getElem_map, List.getElem_idxOf]
theorem tidy_g (g : G u) (nd : (trs u).Nodup) (hl : last < u.length) : G (tidyBy u last) := (tidy_pre g nd hl _ [] (List.append_nil _).symm).1
theorem tidy_trs (g : G u) (nd : (trs u).Nodup) (hl : last < u.length) : trs (tidyBy u last) = (keptL u last).map (tu u) := (tidy_pre g nd hl _ [] (List.append_nil _).symm).2
theorem tu_range (u : List Rw) : (List.range u.length).map (tu u) = trs u := by
  refine List.ext_getElem (by rw [List.length_map, List.length_range, trs_len]) fun i h1 h2 => ?_
  rw [List.getElem_map, List.getElem_range]
  exact getD_lt h2
theorem kept_filter (g : G u) (nd : (trs u).Nodup) (hl : last < u.length) : (keptL u last).map (tu u) = (trs u).filter fun t => wi t (tu u last) := by
  rw [← tu_range u, List.filter_map]
  unfold keptL
  congr 1
  refine List.filter_congr fun j hj => ?_
  rw [Bool.eq_iff_iff, decide_eq_true_iff, ndl_iff g nd hl]
  exact ⟨fun h => h.2, fun h => ⟨List.mem_range.mp hj, h⟩⟩
/-- the last kept one is the last -/
theorem kept_last (g : G u) (nd : (trs u).Nodup) (hl : last < u.length) : ∃ p, keptL u last = p ++ [last] := by
  have hm : last ∈ keptL u last := (mem_kept g nd hl).mpr ⟨hl, W_refl g nd hl⟩
  obtain ⟨p, q, e⟩ := List.append_of_mem hm
  cases q with
  | nil => exact ⟨p, e⟩
  | cons x q =>
    exfalso
    have asc := kept_asc u last
    rw [e, List.pairwise_append] at asc
    have h1 := (List.pairwise_cons.mp asc.2.1).1 x List.mem_cons_self
    have h2 : x ∈ keptL u last := by rw [e]; simp
    obtain ⟨h3, w⟩ := (mem_kept g nd hl).mp h2
    have := W_le g nd u.length hl h3 hl w
    omega
end
end K3

namespace K3
open PySem L2 St
/-! ### tidy rows stay -/
theorem uniq_id {v : List Rw} : G v → (trs v).Nodup → uniq v = (v, List.range v.length) := by
  refine rev_ind (P := fun v => G v → (trs v).Nodup → uniq v = (v, List.range v.length)) (fun _ _ => rfl) (fun p x ih g nd => ?_) v
  have e0 := trs_snoc p x
  have ndp : (trs p).Nodup := by rw [e0] at nd; exact (List.nodup_append.mp nd).1
  rw [uniq_snoc, ih g.left ndp]
  have el : led (fun a => (List.range p.length).getD a 0) x = x := led_id g.ok.last fun a ha => by
    have := rargs_lt g.ok.last ha
    rw [getD_lt (by rw [List.length_range]; exact this), List.getElem_range]
  have ni : x ∉ p := fun hx => by
    obtain ⟨j, hj, e⟩ := List.mem_iff_getElem.mp hx
    have h1 : (trs (p ++ [x])).getD j .none = T (fun a => (trs (p ++ [x])).getD a .none) x := trs_at g.ok (by rw [List.getElem?_append_left hj, List.getElem?_eq_getElem hj, e])
    have h2 : (trs (p ++ [x])).getD p.length .none = T (fun a => (trs (p ++ [x])).getD a .none) x := trs_at g.ok (by rw [List.getElem?_append_right (Nat.le_refl _), Nat.sub_self]; rfl)
    have := nd_inj nd j p.length (by rw [trs_len]; simp; omega) (by rw [trs_len]; simp) (h1.trans h2.symm)
    omega
  unfold step
  dsimp only
  rw [el, if_neg ni, List.length_append]
  show _ = (p ++ [x], List.range (p.length + 1))
  rw [List.range_succ]
theorem lastN_range {n : Nat} (h : 0 < n) : lastN (List.range n) = n - 1 := by
  unfold lastN
  rw [List.length_range, getD_lt (by rw [List.length_range]; omega), List.getElem_range]
theorem idx_range {n a : Nat} (h : a < n) : (List.range n).idxOf a = a := by
  have h' : a < (List.range n).length := by rw [List.length_range]; exact h
  have := List.Nodup.idxOf_getElem (List.nodup_range (n := n)) a h'
  rwa [List.getElem_range] at this
theorem tidy_id {v : List Rw} (g : G v) (nd : (trs v).Nodup) (h0 : 0 < v.length) (hw : ∀ j, j < v.length → W v j (v.length - 1)) : tidyR v = v := by
  unfold tidyR
  rw [uniq_id g nd]
  show tidyBy v (lastN (List.range v.length)) = v
  rw [lastN_range h0]
  have hk : keptL v (v.length - 1) = List.range v.length := by
    unfold keptL
    rw [List.filter_eq_self]
    intro j hj
    rw [decide_eq_true_iff, ndl_iff g nd (by omega)]
    exact ⟨List.mem_range.mp hj, hw j (List.mem_range.mp hj)⟩
  unfold tidyBy
  rw [hk]
  refine List.ext_getElem (by rw [List.length_map, List.length_range]) fun i h1 h2 => ?_
  rw [List.getElem_map, List.getElem_range, getD_lt h2]
  exact led_id (g.ok i _ (List.getElem?_eq_getElem h2)) fun a ha => by
    have := rargs_lt (g.ok i _ (List.getElem?_eq_getElem h2)) ha
    exact idx_range (by omega)
/-! ### what a tidy stair is -/
def lastT (rows : List Rw) : PyData := tu rows (rows.length - 1)
structure Tidy (rows v : List Rw) : Prop where
  g : G v
  pos : 0 < v.length
  le : v.length ≤ rows.length
  due : trs v = dueL (trs rows) (lastT rows) rows.length
  idem : tidyR v = v
  last : lastT v = lastT rows
  wds : ∀ x, (∃ r ∈ v, r.w = x) ↔ x ∈ ws (lastT rows)
theorem ws_iff {u : List Rw} (g : G u) (nd : (trs u).Nodup) (x : Str) : ∀ (n k : Nat), k < n → k < u.length → (x ∈ ws (tu u k) ↔ ∃ j, j < u.length ∧ W u j k ∧ (u.getD j r0).w = x)
  | 0, _, h, _ => absurd h (Nat.not_lt_zero _)
  | n + 1, k, h, hk => by
    rw [tu_T g hk, ws_T, List.mem_cons, List.mem_flatMap]
    have child : ∀ a ∈ rargs (u.getD k r0), a < k := fun a ha => rargs_lt (u_ok g hk) ha
    constructor
    · rintro (e | ⟨a, ha, hx⟩)
      · exact ⟨k, hk, W_refl g nd hk, e.symm⟩
      · have := child a ha
        obtain ⟨j, hj, w, e⟩ := (ws_iff g nd x n a (by omega) (by omega)).mp hx
        exact ⟨j, hj, (W_iff g nd hj hk).mpr (.inr ⟨a, ha, w⟩), e⟩
    · rintro ⟨j, hj, w, e⟩
      rcases (W_iff g nd hj hk).mp w with z | ⟨a, ha, w⟩
      · subst z; exact .inl e.symm
      · have := child a ha
        exact .inr ⟨a, ha, (ws_iff g nd x n a (by omega) (by omega)).mpr ⟨j, hj, w, e⟩⟩
theorem tidyR_is {rows : List Rw} (g : G rows) (h0 : 0 < rows.length) : Tidy rows (tidyR rows) := by
  have I := uniq_inv g
  unfold tidyR
  generalize (uniq rows).1 = u at I ⊢
  generalize (uniq rows).2 = nums at I ⊢
  have hl : lastN nums < u.length := by unfold lastN; rw [I.len]; exact I.lt _ (by omega)
  have el : tu u (lastN nums) = lastT rows := by unfold lastN; rw [I.len]; exact I.eq _ (by omega)
  generalize lastN nums = last at hl el ⊢
  have gv := tidy_g I.g I.nd hl
  have tv := tidy_trs I.g I.nd hl
  have fv := kept_filter I.g I.nd hl
  obtain ⟨p, ep⟩ := kept_last I.g I.nd hl
  have lv : (tidyBy u last).length = (keptL u last).length := by unfold tidyBy; rw [List.length_map]
  have kl : (keptL u last).length = p.length + 1 := by rw [ep, List.length_append]; rfl
  have at_ : ∀ j, j < (tidyBy u last).length → ∃ h : j < (keptL u last).length, tu (tidyBy u last) j = tu u (keptL u last)[j] := fun j hj => ⟨by omega, by
    show (trs (tidyBy u last)).getD j .none = _
    rw [tv, getD_lt (by rw [List.length_map]; omega), List.getElem_map]⟩
  have lastv : lastT (tidyBy u last) = tu u last := by
    obtain ⟨h, e⟩ := at_ ((tidyBy u last).length - 1) (by omega)
    unfold lastT
    rw [e]
    congr 1
    have : (keptL u last)[(tidyBy u last).length - 1]? = some last := by rw [ep, List.getElem?_append_right (by omega), lv, kl]; simp
    rw [List.getElem?_eq_getElem h] at this
    exact Option.some.inj this
  have ndv : (trs (tidyBy u last)).Nodup := by rw [tv, fv]; exact I.nd.sublist List.filter_sublist
  refine ⟨gv, by omega, ?_, ?_, ?_, by rw [lastv, el], fun x => ?_⟩
  · rw [lv]
    refine Nat.le_trans ?_ I.le
    unfold keptL
    exact Nat.le_trans (List.length_filter_le _ _) (by rw [List.length_range]; exact Nat.le_refl _)
  · rw [tv, fv, I.dd, el, dueL_eq (trs_pu g) _ _ (by rw [trs_len]; exact Nat.le_refl _), List.take_of_length_le (by rw [trs_len]; exact Nat.le_refl _)]
  · refine tidy_id gv ndv (by omega) fun j hj => ?_
    obtain ⟨h, e⟩ := at_ j hj
    show wi (tu (tidyBy u last) j) (lastT (tidyBy u last)) = true
    rw [e, lastv]
    exact ((mem_kept I.g I.nd hl).mp (List.getElem_mem h)).2
  · rw [← el, ws_iff I.g I.nd x _ last (Nat.lt_succ_self _) hl]
    constructor
    · rintro ⟨r, hr, e⟩
      obtain ⟨k, hk, rfl⟩ := List.mem_map.mp hr
      have := (mem_kept I.g I.nd hl).mp hk
      exact ⟨k, this.1, this.2, e⟩
    · rintro ⟨j, hj, w, e⟩
      exact ⟨_, List.mem_map.mpr ⟨j, (mem_kept I.g I.nd hl).mpr ⟨hj, w⟩, rfl⟩, e⟩
/-! ### depths -/
def dstp (ds : List Nat) (r : Rw) : List Nat := ds ++ [mx ((rargs r).map fun a => ds.getD a 0) + if untl r.w then 1 else 0]
def dps (rows : List Rw) : List Nat := rows.foldl dstp []
theorem dps_snoc (rows : List Rw) (r : Rw) : dps (rows ++ [r]) = dstp (dps rows) r := by
  unfold dps
  rw [List.foldl_append]; rfl
theorem dps_eq {rows : List Rw} : OkL rows → dps rows = (trs rows).map dp := by
  refine rev_ind (P := fun rows => OkL rows → dps rows = (trs rows).map dp) (fun _ => rfl) (fun l r ih h => ?_) rows
  rw [dps_snoc, ih h.left, trs_snoc, List.map_append, dstp]
  congr 1
  rw [List.map_cons, List.map_nil, dp_T]
  congr 2
  congr 1
  refine List.map_congr_left fun a ha => ?_
  have := rargs_lt h.last ha
  rw [getD_lt (by rw [List.length_map, trs_len]; exact this), List.getElem_map, getD_lt (by rw [trs_len]; exact this)]
theorem ws_len {rows : List Rw} (g : G rows) : ∀ (n k : Nat), k < n → k < rows.length → (ws (tu rows k)).length < 2 ^ (k + 1)
  | 0, _, h, _ => absurd h (Nat.not_lt_zero _)
  | n + 1, k, h, hk => by
    rw [tu_T g hk, ws_T, List.length_cons]
    have all : ∀ a ∈ rargs (rows.getD k r0), (ws (tu rows a)).length < 2 ^ k := fun a ha => by
      have := rargs_lt (u_ok g hk) ha
      exact Nat.lt_of_lt_of_le (ws_len g n a (by omega) (by omega)) (Nat.pow_le_pow_right (by decide) (by omega))
    have h2 := rargs_len (rows.getD k r0)
    have p : 0 < 2 ^ k := Nat.two_pow_pos k
    have e : 2 ^ (k + 1) = 2 * 2 ^ k := by rw [Nat.pow_succ]; omega
    generalize rargs (rows.getD k r0) = l at all h2
    match l, h2 with
    | [], _ => simp <;> omega
    | [a], _ =>
      have := all a (by simp)
      simp; omega
    | [a, b], _ =>
      have h1 := all a (by simp)
      have h2 := all b (by simp)
      simp; omega
    | _ :: _ :: _ :: _, h2 => simp at h2
theorem depth_kD (k : L2.Key) : PyData.depth (kD k) ≤ 1 := by cases k <;> simp [kD, PyData.depth]
theorem depthAll_le {n : Nat} : ∀ {l : List PyData}, (∀ d ∈ l, PyData.depth d ≤ n) → PyData.depthAll l ≤ n
  | [], _ => by simp [PyData.depthAll]
  | d :: l, h => by
    have h1 := h d List.mem_cons_self
    have h2 := depthAll_le fun e he => h e (List.mem_cons_of_mem _ he)
    simp only [PyData.depthAll]
    omega
theorem depth_T {n : Nat} {F : Nat → PyData} {r : Rw} (h1 : 1 ≤ n) (h : ∀ a ∈ rargs r, PyData.depth (F a) ≤ n) : PyData.depth (T F r) ≤ n + 1 := by
  unfold T
  have := depthAll_le (n := n) (l := .str r.w :: (prt r).map fun p => if isR p.1 then F (nat p.2) else kD p.2) fun d hd => by
    rcases List.mem_cons.mp hd with e | hd
    · subst e; simp [PyData.depth]
    · obtain ⟨p, hp, rfl⟩ := List.mem_map.mp hd
      by_cases q : isR p.1 = true
      · rw [if_pos q]; exact h _ (mem_rargs hp q)
      · rw [if_neg q]; exact Nat.le_trans (depth_kD _) h1
  simp only [PyData.depth]
  omega
theorem depth_tu {rows : List Rw} (g : G rows) : ∀ (n k : Nat), k < n → k < rows.length → PyData.depth (tu rows k) ≤ k + 2
  | 0, _, h, _ => absurd h (Nat.not_lt_zero _)
  | n + 1, k, h, hk => by
    rw [tu_T g hk]
    refine depth_T (by omega) fun a ha => ?_
    have := rargs_lt (u_ok g hk) ha
    exact Nat.le_trans (depth_tu g n a (by omega) (by omega)) (by omega)
end K3

namespace K3
open PySem PySem.Spec PyProof.Rows L2 Hb St Sq Ow En Zp RZ Rd
def top (i : Nat) : Stmt := PySem.Challenge.pw_curvebells_k30_stairs_made_tidy.main.body.getD i (.Pass ⟨0, 0, 0, 0⟩)
/-! ### data -/
def IsNm (x : Str) : Prop := 0 < x.length ∧ x.length ≤ 8 ∧ ∀ c ∈ x.cps.toList, 97 ≤ c ∧ c < 123
def wordsL : List Str := ["above", "rises", "falls", "rings", "not", "and", "or", "until", "since", "soon", "lately"]
def kindsL : List Str := ["side", "thing", "bell", "row", "count"]
structure fit (p : Str × L2.Key) : Prop where
  kd : p.1 ∈ kindsL
  ct : p.1 = "count" → ∃ i : Int, p.2 = .inl i ∧ 1 ≤ i
  nm : p.1 = "thing" ∨ p.1 = "bell" → ∃ s, p.2 = .inr s
  al : ∀ s, p.2 = .inr s → IsNm s
structure Rk (n : Nat) (r : Rw) : Prop where
  ok : Ok n r
  wd : r.w ∈ wordsL
  ft : ∀ p ∈ prt r, fit p
  ab : r.w = "above" → ∃ x y, r.as = [x, y] ∧ x ≠ y ∧ ((∃ s, x = .inr s) ∨ ∃ s, y = .inr s)
def RkL (rows : List Rw) : Prop := ∀ i r, rows[i]? = some r → Rk i r
section
variable (K : PySem.W.Frag)
def rowV (r : Rw) : List V := .str r.w :: r.as.map kV
def RowH (H : Hp) (v : V) (r : Rw) : Prop := ∃ a, v = .ref a ∧ SqT K H a (rowV r)
def flds (ra : V) : List (Str × V) := putF "rows" ra []
def StA (C : Addr) (H : Hp) (v : V) (rows : List Rw) : Prop := ∃ a dx ra its, v = .ref a ∧ H a = some (.ins C dx (flds (.ref ra))) ∧ H ra = some (.tup its) ∧ All2 (RowH K H) its rows
end
section
variable {K : PySem.W.Frag} {H H' : Hp} {v : V}
theorem RowH.fix {r : Rw} (f : Fix H H') (h : RowH K H v r) : RowH K H' v r := let ⟨a, e, q⟩ := h; ⟨a, e, tupFix f q⟩
theorem RowH.same {r : Rw} (f : Same H H') (h : RowH K H v r) : RowH K H' v r := h.fix (Fix.of f)
theorem StA.fix {C : Addr} {rows : List Rw} (f : Fix H H') (h : StA K C H v rows) : StA K C H' v rows := by
  obtain ⟨a, dx, ra, its, e, q, q1, q2⟩ := h
  exact ⟨a, dx, ra, its, e, f _ _ q (by rintro (⟨_, z⟩ | ⟨_, z⟩) <;> cases z), f _ _ q1 (by rintro (⟨_, z⟩ | ⟨_, z⟩) <;> cases z), q2.imp fun _ _ => RowH.fix f⟩
theorem StA.same {C : Addr} {rows : List Rw} (f : Same H H') (h : StA K C H v rows) : StA K C H' v rows := h.fix (Fix.of f)
end
theorem fl_rows (ra : V) : (flds ra).lookup ("rows" : Str) = some ra := by
  unfold flds
  rw [lookup_putF, if_pos rfl]
theorem fl_no (ra : V) {m : Str} (h1 : ¬ m = "rows") : (flds ra).lookup m = none := by
  unfold flds
  rw [lookup_putF, if_neg h1]
  all_goals rfl
/-- what is asked of the class -/
structure Txt (K : PySem.W.Frag) (mg : Str → Option Value) (C : Addr) : Prop where
  cl : Cls K C
  nR : NoAttr K C "rows"
  mgC : mg "Stair" = some (.ref C)
  x1 : PySem.W.findIn K (.ref C) "__class__" = some (some (.builtin "object.__class__"))
  x2 : PySem.W.specialIn K (.builtin "object.__class__") "__get__" = some (some (.builtin "getset_descriptor.__get__"))
  x3 : PySem.W.takesIn K (.builtin "object.__class__") = some true
  x4 : PySem.W.mroIn K C (.type "object") = some true
  kC : PySem.W.kitOne K (.ref C) (.ref C) = some true
  sL : PySem.W.subIn K (.type "list") (.ref C) = some false
/-- the table of words -/
structure Fms (K : PySem.W.Frag) (w : World) (mg : Str → Option Value) (p : Addr) : Prop where
  g : mg "FORMS" = some (.ref p)
  D : ∃ es n, KDict K w p es n
  at_ : ∀ x ∈ wordsL, ∃ t, KDct K w p x (.ref t) ∧ ∀ H, SqT K H t ((frm x).map V.str)
/-! ### names -/
theorem az_all : ((List.range 26).all fun k => Unicode.isAlpha (97 + k) && Unicode.isLower (97 + k) && !Unicode.isUpper (97 + k) && !Unicode.isTitle (97 + k)) = true := by decide +kernel
theorem az {c : Nat} (h : 97 ≤ c ∧ c < 123) : Unicode.isAlpha c = true ∧ Unicode.isLower c = true ∧ Unicode.isUpper c = false ∧ Unicode.isTitle c = false := by
  have q := List.all_eq_true.mp az_all (c - 97) (List.mem_range.mpr (by omega))
  rw [show 97 + (c - 97) = c by omega] at q
  simp only [Bool.and_eq_true, Bool.not_eq_true'] at q
  exact ⟨q.1.1.1, q.1.1.2, q.1.2, q.2⟩
theorem nm_all {x : Str} (h : IsNm x) {p : Nat → Bool} (k : ∀ c, 97 ≤ c ∧ c < 123 → p c = true) : x.cps.all p = true := by
  rw [Array.all_eq_true_iff_forall_mem]
  exact fun c hc => k c (h.2.2 c (Array.mem_toList_iff.mpr hc))
theorem nm_ok {x : Str} (h : IsNm x) : PyData.strOk x = true := nm_all h fun c hc => by simp; omega
theorem nm_ascii {x : Str} (h : IsNm x) : Txt.isascii x = true := nm_all h fun c hc => by simp; omega
theorem nm_alpha {x : Str} (h : IsNm x) : Txt.isalpha x = true := by
  unfold Txt.isalpha
  rw [nm_all h fun c hc => (az hc).1, decide_eq_true h.1]; rfl
theorem nm_lower {x : Str} (h : IsNm x) : Txt.islower x = true := by
  unfold Txt.islower
  have h1 : x.cps.any Unicode.isLower = true := by
    rw [Array.any_eq_true]
    have hp : 0 < x.cps.size := h.1
    exact ⟨0, hp, (az (h.2.2 _ (by simp))).2.1⟩
  have h2 : (x.cps.any fun c => Unicode.isUpper c || Unicode.isTitle c) = false := by
    rw [Array.any_eq_false]
    intro i hi
    have := az (h.2.2 x.cps[i] (by simp))
    rw [this.2.2.1, this.2.2.2]; decide
  rw [h1, h2]; rfl
theorem words_ok : ∀ x ∈ wordsL, PyData.strOk x = true := by
  have : (wordsL.all fun x => PyData.strOk x) = true := by decide +kernel
  exact fun x hx => List.all_eq_true.mp this x hx
theorem kV_kd (x : L2.Key) {K : PySem.W.Frag} {H : Hp} : Dp K H (kV x) (kD x) := by
  cases x with
  | inl i => exact .int i
  | inr s => exact .str s
theorem as_key {r : Rw} (h : r.as.length = (frm r.w).length) {x : L2.Key} (hx : x ∈ r.as) : ∃ k, (k, x) ∈ prt r := by
  rw [← prt_snd h] at hx
  obtain ⟨p, hp, rfl⟩ := List.mem_map.mp hx
  exact ⟨p.1, hp⟩
theorem Rk.pu {n : Nat} {r : Rw} (h : Rk n r) : PuR r := ⟨words_ok _ h.wd, fun x hx => by
  obtain ⟨k, hk⟩ := as_key h.ok.ln hx
  exact nm_ok ((h.ft _ hk).al x rfl)⟩
theorem RkL.g {rows : List Rw} (h : RkL rows) : G rows := ⟨fun i r e => (h i r e).ok, fun r hr => by
  obtain ⟨i, hi, e⟩ := List.mem_iff_getElem.mp hr
  exact (h i r (by rw [List.getElem?_eq_getElem hi, e])).pu⟩
section
variable {P : Program} {w : World} {K : PySem.W.Frag} {mg : Str → Option Value} {base : Heap}
/-! ### is_integer -/
abbrev s_is_integer : Stmt := top 7
theorem sc_is_integer : FnScope ["value"] ["value"] (defScope s_is_integer) := ⟨rfl, rfl, rfl, by decide +kernel, rfl, by decide +kernel, by decide +kernel⟩
def spIsInt : Sp := fun vs H Q _ => ∃ i : Int, vs = [.int i] ∧ Q (.bl true) H
theorem ok_isInt {f : Addr} {fd : FuncData} (F : Fun K "is_integer" "is_integer" s_is_integer f fd) (n_bool : mg "bool" = none) (n_int : mg "int" = none) (n_isinstance : mg "isinstance" = none) : FnOk P w K mg base CX0 1 f fd ["value"] spIsInt := by
  refine F.ok sc_is_integer (fun vs H Q E h => ?_) (fun cdv A outer s H vs Q E hr h => ?_)
  · obtain ⟨_, rfl, _⟩ := h
    rfl
  · obtain ⟨i, rfl, q⟩ := h
    refine ⟨_, (pss_one (ps_ret (pe_and (pe_callB call_isi (by rfl) n_isinstance (by decide +kernel) (pa_cons (pv 0) (pa_cons (pe_bltn (v := .ty "int") (by rfl) n_int (by decide +kernel) rfl) pa_nil))) (pe_one (pe_not (pe_callB call_isi (by rfl) n_isinstance (by decide +kernel) (pa_cons (pv 0) (pa_cons (pe_bltn (v := .ty "bool") (by rfl) n_bool (by decide +kernel) rfl) pa_nil)))))))), ?_⟩
    refine ⟨_, rfl, .int i, .ty "int", _, _, _, rfl, .ty "int", .base (.int i), kit_ty (r := true) (by decide +kernel), true, rfl, iteT ?_⟩
    exact ⟨_, rfl, .int i, .ty "bool", _, _, _, rfl, .ty "bool", .base (.int i), kit_ty (r := false) (by decide +kernel), false, rfl, q⟩
/-! ### is_number -/
abbrev s_is_number : Stmt := top 8
theorem sc_is_number : FnScope ["value"] ["value"] (defScope s_is_number) := ⟨rfl, rfl, rfl, by decide +kernel, rfl, by decide +kernel, by decide +kernel⟩
def spIsNum : Sp := fun vs H Q _ => ∃ i : Int, vs = [.int i] ∧ Q (.bl (decide (0 ≤ i))) H
theorem ok_isNum {f : Addr} {fd : FuncData} (F : Fun K "is_number" "is_number" s_is_number f fd) (C_is_integer : Cl P w K mg base "is_integer" ["value"] [] 1 spIsInt) : FnOk P w K mg base CX0 2 f fd ["value"] spIsNum := by
  refine F.ok sc_is_number (fun vs H Q E h => ?_) (fun cdv A outer s H vs Q E hr h => ?_)
  · obtain ⟨_, rfl, _⟩ := h
    rfl
  · obtain ⟨i, rfl, q⟩ := h
    refine ⟨_, (pss_one (ps_ret (pe_and (pe_use C_is_integer (hr.mono (by decide)) rfl (pa_cons (pv 0) pa_nil)) (pe_one (pe_cmpR op_ge (pv 0) pe_int (nomark _)))))), ?_⟩
    exact ⟨_, rfl, i, rfl, true, rfl, iteT ⟨_, rfl, _, _, rfl, rfl, q⟩⟩
/-! ### is_count -/
abbrev s_is_count : Stmt := top 9
theorem sc_is_count : FnScope ["value"] ["value"] (defScope s_is_count) := ⟨rfl, rfl, rfl, by decide +kernel, rfl, by decide +kernel, by decide +kernel⟩
def spIsCnt : Sp := fun vs H Q _ => ∃ i : Int, vs = [.int i] ∧ Q (.bl (decide (1 ≤ i))) H
theorem ok_isCnt {f : Addr} {fd : FuncData} (F : Fun K "is_count" "is_count" s_is_count f fd) (C_is_integer : Cl P w K mg base "is_integer" ["value"] [] 1 spIsInt) : FnOk P w K mg base CX0 2 f fd ["value"] spIsCnt := by
  refine F.ok sc_is_count (fun vs H Q E h => ?_) (fun cdv A outer s H vs Q E hr h => ?_)
  · obtain ⟨_, rfl, _⟩ := h
    rfl
  · obtain ⟨i, rfl, q⟩ := h
    refine ⟨_, (pss_one (ps_ret (pe_and (pe_use C_is_integer (hr.mono (by decide)) rfl (pa_cons (pv 0) pa_nil)) (pe_one (pe_cmpR op_ge (pv 0) pe_int (nomark _)))))), ?_⟩
    exact ⟨_, rfl, i, rfl, true, rfl, iteT ⟨_, rfl, _, _, rfl, rfl, q⟩⟩
/-! ### is_sequence -/
abbrev s_is_sequence : Stmt := top 10
theorem sc_is_sequence : FnScope ["value"] ["value"] (defScope s_is_sequence) := ⟨rfl, rfl, rfl, by decide +kernel, rfl, by decide +kernel, by decide +kernel⟩
def spIsSeq (K : PySem.W.Frag) : Sp := fun vs H Q _ => ∃ (a : Addr) (xs : List V), vs = [.ref a] ∧ SqX K H a xs ∧ ∀ H', Same H H' → Q (.bl true) H'
theorem ty_seq {H : Hp} {a : Addr} {xs : List V} (h : SqX K H a xs) : TyX K H (.ref a) (.type "list") ∨ TyX K H (.ref a) (.type "tuple") := by
  rcases h with ((e | ⟨o, e⟩) | ⟨o, its, n, e, c, _⟩) | ((e | ⟨o, e⟩) | ⟨o, its, n, e, c, _⟩)
  · exact .inl (.base (.lst e))
  · exact .inl (.base (.frz e))
  · exact .inl (.kList e c)
  · exact .inr (.base (.tup e))
  · exact .inr (.fTuple e)
  · exact .inr (.kTuple e c)
theorem ok_isSeq {f : Addr} {fd : FuncData} (F : Fun K "is_sequence" "is_sequence" s_is_sequence f fd) (n_isinstance : mg "isinstance" = none) (n_list : mg "list" = none) (n_tuple : mg "tuple" = none) : FnOk P w K mg base CX0 1 f fd ["value"] (spIsSeq K) := by
  refine F.ok sc_is_sequence (fun vs H Q E h => ?_) (fun cdv A outer s H vs Q E hr h => ?_)
  · obtain ⟨_, _, rfl, _⟩ := h
    rfl
  · obtain ⟨a, xs, rfl, hx, q⟩ := h
    refine ⟨_, (pss_one (ps_ret (pe_callB call_isiT (by rfl) n_isinstance (by decide +kernel) (pa_cons (pv 0) (pa_cons (pe_tup (pa_cons (pe_bltn (v := .ty "list") (by rfl) n_list (by decide +kernel) rfl) (pa_cons (pe_bltn (v := .ty "tuple") (by rfl) n_tuple (by decide +kernel) rfl) pa_nil))) pa_nil))))), ?_⟩
    refine ⟨_, rfl, by show 2 ≤ sizeLine; decide, fun t ht => ?_⟩
    have s1 := same_new ht (.tup [.ty "list", .ty "tuple"])
    rcases ty_seq (sqxSame s1 hx) with ty | ty
    · exact ⟨_, t, [.ty "list", .ty "tuple"], _, [.type "list", .type "tuple"], true, rfl, upd_same, .cons (.ty _) (.cons (.ty _) .nil), ty, by unfold PySem.W.kitAny; rw [kit_ty (a := "list") (b := "list") (r := true) (by decide +kernel)], q _ s1⟩
    · exact ⟨_, t, [.ty "list", .ty "tuple"], _, [.type "list", .type "tuple"], true, rfl, upd_same, .cons (.ty _) (.cons (.ty _) .nil), ty, by unfold PySem.W.kitAny PySem.W.kitAny; rw [kit_ty (a := "tuple") (b := "list") (r := false) (by decide +kernel), kit_ty (a := "tuple") (b := "tuple") (r := true) (by decide +kernel)], q _ s1⟩
/-! ### is_name -/
abbrev s_is_name : Stmt := top 11
theorem sc_is_name : FnScope ["value"] ["value"] (defScope s_is_name) := ⟨rfl, rfl, rfl, by decide +kernel, rfl, by decide +kernel, by decide +kernel⟩
def spIsName : Sp := fun vs H Q _ => ∃ k : L2.Key, vs = [kV k] ∧ (∀ x, k = .inr x → IsNm x) ∧ Q (.bl k.isRight) H
theorem ok_isName {f : Addr} {fd : FuncData} (F : Fun K "is_name" "is_name" s_is_name f fd) {tk : Tok} (g_LETTERS : mg "LETTERS" = some (.int 8 tk)) (n_isinstance : mg "isinstance" = none) (n_len : mg "len" = none) (n_str : mg "str" = none) : FnOk P w K mg base CX0 1 f fd ["value"] spIsName := by
  refine F.ok sc_is_name (fun vs H Q E h => ?_) (fun cdv A outer s H vs Q E hr h => ?_)
  · obtain ⟨_, rfl, _⟩ := h
    rfl
  · obtain ⟨k, rfl, hx, q⟩ := h
    refine ⟨_, (Evl.pss_cut (ps_if (PW.pt (pw_or (pt_not (pt_val (pe_callB call_isi (by rfl) n_isinstance (by decide +kernel) (pa_cons (pv 0) (pa_cons (pe_bltn (v := .ty "str") (by rfl) n_str (by decide +kernel) rfl) pa_nil))))) (pw_or1 (pt_cmpR op_gt (pe_callB call_len_str (by rfl) n_len PySem.boot_len (pa_cons (pv 0) pa_nil)) (pe_glob (v := .int 8) rfl g_LETTERS ⟨_, rfl⟩) (nomark _))))) (pss_one (ps_ret pe_bl)) pss_nil)
    (pss_one (ps_ret (pe_and (pe_bm0 PySem.F.plainAttrs_str PySem.F.slot_str_isascii PySem.F.type_str_isascii mt_isascii (pv 0)) (pe_and (pe_bm0 PySem.F.plainAttrs_str PySem.F.slot_str_isalpha PySem.F.type_str_isalpha mt_isalpha (pv 0)) (pe_one (pe_bm0 PySem.F.plainAttrs_str PySem.F.slot_str_islower PySem.F.type_str_islower mt_islower (pv 0)))))))), ?_⟩
    cases k with
    | inl i =>
      refine ⟨fun σ H' => False, ?_, fun _ _ h => h.elim⟩
      exact ⟨_, rfl, .int i, .ty "str", _, _, _, rfl, .ty "str", .base (.int i), kit_ty (r := false) (by decide +kernel), false, rfl, iteT q⟩
    | inr x =>
    have hx := hx x rfl
    refine ⟨fun σ H' => σ = [some (.str x)] ∧ H' = H, ?_, ?_⟩
    · refine ⟨_, rfl, .str x, .ty "str", _, _, _, rfl, .ty "str", .base (.str x), kit_ty (r := true) (by decide +kernel), true, rfl, iteF ?_⟩
      exact ⟨_, rfl, _, rfl, Nat.le_trans hx.2.1 (by decide), _, _, rfl, rfl, _, rfl, by rw [decide_eq_false (by have := hx.2.1; omega)]; exact iteF ⟨rfl, rfl⟩⟩
    rintro σ H' ⟨rfl, rfl⟩
    refine ⟨_, rfl, rfl, _, rfl, rfl, trivial, _, rfl, ?_⟩
    rw [nm_ascii hx]
    refine iteT ⟨_, rfl, rfl, _, rfl, rfl, trivial, _, rfl, ?_⟩
    rw [nm_alpha hx]
    refine iteT ⟨_, rfl, rfl, _, rfl, rfl, trivial, ?_⟩
    rw [nm_lower hx]
    exact q
/-! ### as_lot -/
abbrev s_as_lot : Stmt := top 12
theorem sc_as_lot : FnScope ["values"] ["values"] (defScope s_as_lot) := ⟨rfl, rfl, rfl, by decide +kernel, rfl, by decide +kernel, by decide +kernel⟩
def spLot (K : PySem.W.Frag) : Sp := fun vs H Q _ => ∃ a : Addr, vs = [.ref a] ∧ ((∃ ns : List Str, SqX K H a (ns.map V.str) ∧ ns.length ≤ 1000 ∧ ∀ p H', Same H H' → H' p = some (.tup ((lotS ns).map V.str)) → Q (.ref p) H') ∨
  ∃ ns : List Int, SqX K H a (ns.map V.int) ∧ ns.length < 64 ∧ ∀ p H', Same H H' → H' p = some (.tup ((lotI ns).map V.int)) → Q (.ref p) H')
theorem ok_lot {f : Addr} {fd : FuncData} (F : Fun K "as_lot" "as_lot" s_as_lot f fd) (n_set : mg "set" = none) (n_sorted : mg "sorted" = none) (n_tuple : mg "tuple" = none) : FnOk P w K mg base CX0 1 f fd ["values"] (spLot K) := by
  refine F.ok sc_as_lot (fun vs H Q E h => ?_) (fun cdv A outer s H vs Q E hr h => ?_)
  · obtain ⟨_, rfl, _⟩ := h
    rfl
  · obtain ⟨a, rfl, h⟩ := h
    refine ⟨_, (pss_one (ps_ret (pe_callTy call_tuple_of (by rfl) n_tuple (by decide +kernel) (pa_cons (pe_callB (cr_sorted2 rfl) (by rfl) n_sorted (by decide +kernel) (pa_cons (pe_callTy (cr_set rfl) (by rfl) n_set (by decide +kernel) (pa_cons (pv 0) pa_nil)) pa_nil)) pa_nil)))), ?_⟩
    refine ⟨_, rfl, ?_⟩
    rcases h with ⟨ns, hx, hl, q⟩ | ⟨ns, hx, hl, q⟩
    · exact rd_lotS hx hl q
    · exact rd_lotI hx hl q
end
end K3

namespace K3
open PySem PySem.Spec PyProof.Rows L2 Hb St Sq Ow En Zp RZ Rd
local macro_rules | `(tactic| walk_at "wp") => `(tactic| try simp only [cxOf, tKGet, gName, rIxT, rIxL, tOr, tAnd, tB, tCB, tAsg, tTup, tLst, tSl, tNoPart, tPart, tDrop, tBM, tBM0, tPar, tAug, tIf, tYes, tCKw, tSeq, tRet, tRetN, tTest, tOp, tUn, tVar, tC, tCall, tCons, tNil, tIfS, tNext, tAndV, tOrV, tNot, tNotV, rEq, rNe, rI0, rI, L2.start, List.map_cons, List.map_nil, List.cons_append, List.nil_append, List.length_cons, List.length_nil, List.append_nil, Nat.reduceAdd, Nat.reduceSub, Nat.zero_add, List.replicate, List.getElem?_cons_zero, List.getElem?_cons_succ, List.set_cons_zero, List.set_cons_succ, Option.some.injEq, exists_eq_left', exists_eq_left, V.bl.injEq, V.str.injEq, V.int.injEq, V.ref.injEq, V.ty.injEq, List.cons.injEq, and_true, true_and, exists_and_left])
section
variable {P : Program} {w : World} {K : PySem.W.Frag} {mg : Str → Option Value} {base : Heap}
theorem k_row {k : Str} : isR k = true ↔ k = "row" := decide_eq_true_iff
/-! ### is_fit -/
abbrev s_is_fit : Stmt := top 18
theorem sc_is_fit : FnScope ["kind", "value", "number"] ["kind", "value", "number"] (defScope s_is_fit) := ⟨rfl, rfl, rfl, by decide +kernel, rfl, by decide +kernel, by decide +kernel⟩
def spIsFit : Sp := fun vs H Q _ => ∃ (p : Str × L2.Key) (n : Nat), vs = [.str p.1, kV p.2, .int n] ∧ fit p ∧ fitR n p ∧ Q (.bl true) H
theorem ok_isFit {f : Addr} {fd : FuncData} (F : Fun K "is_fit" "is_fit" s_is_fit f fd) (C_is_count : Cl P w K mg base "is_count" ["value"] [] 2 spIsCnt) (C_is_integer : Cl P w K mg base "is_integer" ["value"] [] 1 spIsInt) (C_is_name : Cl P w K mg base "is_name" ["value"] [] 1 spIsName) (C_is_number : Cl P w K mg base "is_number" ["value"] [] 2 spIsNum) : FnOk P w K mg base CX0 3 f fd ["kind", "value", "number"] spIsFit := by
  refine F.ok sc_is_fit (fun vs H Q E h => ?_) (fun cdv A outer s H vs Q E hr h => ?_)
  · obtain ⟨_, _, rfl, _⟩ := h
    rfl
  · obtain ⟨⟨k, x⟩, n, rfl, ft, fr, q⟩ := h
    refine ⟨_, (pss_cons (ps_if (pt_cmpR op_eq (pv 0) pe_str (nomark _)) (pss_one (ps_ret (pe_and (pe_use C_is_number (hr.mono (by decide)) rfl (pa_cons (pv 1) pa_nil)) (pe_one (pe_cmpR op_lt (pv 1) (pv 2) (nomark _)))))) pss_nil)
    (pss_cons (ps_if (pt_cmpR op_eq (pv 0) pe_str (nomark _)) (pss_one (ps_ret (pe_use C_is_count (hr.mono (by decide)) rfl (pa_cons (pv 1) pa_nil)))) pss_nil)
    (pss_one (ps_ret (pe_or (pe_use C_is_name (hr.mono (by decide)) rfl (pa_cons (pv 1) pa_nil)) (pe_one (pe_and (pe_cmpR op_eq (pv 0) pe_str (nomark _)) (pe_one (pe_use C_is_integer (hr.mono (by decide)) rfl (pa_cons (pv 1) pa_nil)))))))))), ?_⟩
    simp only [spIsNum, spIsCnt, spIsInt, spIsName]
    walk_at "wp"
    refine ⟨rfl, iteD (fun e => ?_) fun e => ⟨rfl, iteD (fun e2 => ?_) fun e2 => ?_⟩⟩
    · obtain ⟨i, ex, hi⟩ := fr (k_row.mpr e)
      obtain rfl : x = .inl (i : Nat) := ex
      refine ⟨i, rfl, _, rfl, ?_⟩
      rw [decide_eq_true (Int.natCast_nonneg i)]
      refine iteT ⟨i, rfl, ?_⟩
      rw [decide_eq_true (by omega)]
      exact q
    · obtain ⟨i, ex, hi⟩ := ft.ct e2
      obtain rfl : x = .inl i := ex
      refine ⟨i, rfl, ?_⟩
      rw [decide_eq_true hi]
      exact q
    · refine ⟨x, rfl, ft.al, ?_⟩
      cases x with
      | inr s => exact ⟨true, rfl, iteT q⟩
      | inl i =>
        refine ⟨false, rfl, iteF ⟨rfl, iteD (fun _ => ⟨_, rfl, q⟩) fun e3 => ?_⟩⟩
        have hk := ft.kd
        have hn : ¬ (k = "thing" ∨ k = "bell") := fun h => by
          obtain ⟨s, z⟩ := ft.nm h
          cases z
        simp only [kindsL, List.mem_cons, List.not_mem_nil, or_false] at hk
        rcases hk with h | h | h | h | h
        · exact absurd h e3
        · exact absurd (.inl h) hn
        · exact absurd (.inr h) hn
        · exact absurd h e
        · exact absurd h e2
/-! ### is_pair_of_sides -/
abbrev s_is_pair_of_sides : Stmt := top 19
theorem sc_is_pair_of_sides : FnScope ["one", "other"] ["one", "other"] (defScope s_is_pair_of_sides) := ⟨rfl, rfl, rfl, by decide +kernel, rfl, by decide +kernel, by decide +kernel⟩
def spSides : Sp := fun vs H Q _ => ∃ x y : L2.Key, vs = [kV x, kV y] ∧ (∀ s, x = .inr s → IsNm s) ∧ (∀ s, y = .inr s → IsNm s) ∧ x ≠ y ∧ ((∃ s, x = .inr s) ∨ ∃ s, y = .inr s) ∧ Q (.bl true) H
theorem ok_isSides {f : Addr} {fd : FuncData} (F : Fun K "is_pair_of_sides" "is_pair_of_sides" s_is_pair_of_sides f fd) (C_is_name : Cl P w K mg base "is_name" ["value"] [] 1 spIsName) : FnOk P w K mg base CX0 2 f fd ["one", "other"] spSides := by
  refine F.ok sc_is_pair_of_sides (fun vs H Q E h => ?_) (fun cdv A outer s H vs Q E hr h => ?_)
  · obtain ⟨_, _, rfl, _⟩ := h
    rfl
  · obtain ⟨x, y, rfl, nx, ny, ne, hs, q⟩ := h
    refine ⟨_, (pss_one (ps_ret (pe_and (pe_cmpR op_ne (pv 0) (pv 1) (nomark _)) (pe_one (pe_or (pe_use C_is_name (hr.mono (by decide)) rfl (pa_cons (pv 0) pa_nil)) (pe_one (pe_use C_is_name (hr.mono (by decide)) rfl (pa_cons (pv 1) pa_nil)))))))), ?_⟩
    walk_at "wp"
    refine ⟨by cases x <;> cases y <;> rfl, iteN (fun e => ⟨x, rfl, nx, ?_⟩) fun e => absurd ?_ ne⟩
    · cases x with
      | inr s => exact ⟨true, rfl, iteT q⟩
      | inl i =>
        refine ⟨false, rfl, iteF ⟨y, rfl, ny, ?_⟩⟩
        rcases hs with ⟨s, z⟩ | ⟨s, rfl⟩
        · cases z
        · exact q
    · cases x <;> cases y <;> cases e <;> rfl
/-! ### is_row -/
theorem prtV (r : Rw) : ((frm r.w).map V.str).zip (r.as.map kV) = (prt r).map fun d => (V.str d.1, kV d.2) := by
  unfold prt
  rw [List.zip_map]
  rfl
abbrev s_is_row : Stmt := top 17
theorem sc_is_row : FnScope ["value", "number", "form", "kind", "one"] ["value", "number"] (defScope s_is_row) := ⟨rfl, rfl, rfl, by decide +kernel, rfl, by decide +kernel, by decide +kernel⟩
def spIsRow (K : PySem.W.Frag) : Sp := fun vs H Q _ => ∃ (v : V) (n : Nat) (r : Rw), vs = [v, .int n] ∧ RowH K H v r ∧ Rk n r ∧ ∀ H', Same H H' → Q (.bl true) H'
theorem ok_isRow {f : Addr} {fd : FuncData} (F : Fun K "is_row" "is_row" s_is_row f fd) {pF : Addr} (FM : Fms K w mg pF) (C_is_fit : Cl P w K mg base "is_fit" ["kind", "value", "number"] [] 3 spIsFit) (C_is_pair_of_sides : Cl P w K mg base "is_pair_of_sides" ["one", "other"] [] 2 spSides) (n_all : mg "all" = none) (n_isinstance : mg "isinstance" = none) (n_len : mg "len" = none) (n_str : mg "str" = none) (n_tuple : mg "tuple" = none) (n_zip : mg "zip" = none) : FnOk P w K mg base CX0 4 f fd ["value", "number"] (spIsRow K) := by
  refine F.ok sc_is_row (fun vs H Q E h => ?_) (fun cdv A outer s H vs Q E hr h => ?_)
  · obtain ⟨_, _, _, rfl, _⟩ := h
    rfl
  · obtain ⟨_, n, r, rfl, ⟨a, rfl, hr0⟩, rk, q⟩ := h
    obtain ⟨_, _, KF⟩ := FM.D
    obtain ⟨t, kt, ht⟩ := FM.at_ _ rk.wd
    have len := rk.ok.ln
    refine ⟨_, (pss_cons (ps_if (PW.pt (pw_or (pt_not (pt_val (pe_callB call_isi (by rfl) n_isinstance (by decide +kernel) (pa_cons (pv 0) (pa_cons (pe_bltn (v := .ty "tuple") (by rfl) n_tuple (by decide +kernel) rfl) pa_nil))))) (pw_or (pt_cmpR op_eq (pe_callB call_len_seq (by rfl) n_len PySem.boot_len (pa_cons (pv 0) pa_nil)) pe_int (nomark _)) (pw_or1 (pt_not (pt_val (pe_callB call_isi (by rfl) n_isinstance (by decide +kernel) (pa_cons (pe_ix ix_tup (pv 0) pe_int (fun _ _ => rfl)) (pa_cons (pe_bltn (v := .ty "str") (by rfl) n_str (by decide +kernel) rfl) pa_nil))))))))) (pss_one (ps_ret pe_bl)) pss_nil)
    (pss_cons (ps_set (i := 2) sc_is_row.nd rfl (Or.inl rfl) (pe_kget KF (by rfl) FM.g (pe_ix ix_tup (pv 0) pe_int (fun _ _ => rfl)) ⟨rfl, rfl, rfl, rfl⟩))
    (pss_cons (ps_if (PW.pt (pw_or (pt_cmpR op_isN (pv 2) pe_non (nomark _)) (pw_or1 (pt_cmpR op_ne (pe_callB call_len_seq (by rfl) n_len PySem.boot_len (pa_cons (pv 0) pa_nil)) (pe_op op_add (pe_callB call_len_seq (by rfl) n_len PySem.boot_len (pa_cons (pv 2) pa_nil)) pe_int) (nomark _))))) (pss_one (ps_ret pe_bl)) pss_nil)
    (pss_cons (ps_if (pt_not (pt_val (pe_callB (cr_all rfl) (by rfl) n_all (by decide +kernel) (pa_cons (pe_lc (own := [("kind", 3), ("one", 4)]) (g := gTup K 2 (gCons (gName 3) (gCons (gName 4) gNil))) rfl sc_is_row.nd (pi_zipA (by rfl) n_zip (pa_cons (pv 2) (pa_cons (pe_slice (r := rSlA K) sl_tupA (pv 0) (po_some pe_int) po_none) pa_nil))) (blkOk_by (N := ["value", "number", "form", "kind", "one"]) (sc := defScope s_is_row) (by decide +kernel)) (fun _ _ _ _ _ => pg_tup rfl (pgs_cons (pg_name (i := 3) sc_is_row.nd rfl (Or.inl rfl)) (pgs_cons (pg_name (i := 4) sc_is_row.nd rfl (Or.inl rfl)) pgs_nil))) (fun _ _ _ _ _ => pts_nil) (fun _ _ _ _ _ => pe_use C_is_fit (hr.mono (by decide)) rfl (pa_cons (pv 3) (pa_cons (pv 4) (pa_cons (pv 1) pa_nil))))) pa_nil)))) (pss_one (ps_ret pe_bl)) pss_nil)
    (pss_one (ps_ret (pe_or (pe_cmpR op_ne (pe_ix ix_tup (pv 0) pe_int (fun _ _ => rfl)) pe_str (nomark _)) (pe_one (pe_use C_is_pair_of_sides (hr.mono (by decide)) rfl (pa_cons (pe_ix ix_tup (pv 0) pe_int (fun _ _ => rfl)) (pa_cons (pe_ix ix_tup (pv 0) pe_int (fun _ _ => rfl)) pa_nil))))))))))), ?_⟩
    walk_at "wp"
    refine rd_isTup hr0 ⟨true, rfl, iteF ⟨_, .inr hr0, rfl, iteD (fun e => ?_) fun _ => ?_⟩⟩
    · simp [rowV] at e; omega
    walk_at "wp"
    refine ⟨_, hr0, _, at0, rd_isStr ⟨true, rfl, iteF ?_⟩⟩
    walk_at "wp"
    refine ⟨_, hr0, _, at0, _, rfl, _, kt, ?_⟩
    walk_at "wp"
    refine iteF ⟨_, .inr hr0, _, .inr (ht H), rfl, iteN (fun e => ?_) fun _ => ?_⟩
    · exfalso; apply e
      simp [rowV, len]
    refine ⟨_, rfl, ?_⟩
    refine rd_slc rfl hr0 fun p H1 hp s1 e1 => ?_
    refine ⟨t, p, _, _, rfl, .inr ⟨ht H1, SqT.of e1, fun D hD => ?_⟩⟩
    refine lc_mp wp_tup (ds := prt r) (fun _ => true) (fun _ y _ => y = .bl true) ⟨ht _, SqT.of e1⟩ hD (by rw [prtV, List.length_map]) (fun _ _ _ _ _ h => h) (fun i T p d H2 ep ed s2 eT m => ?_) (fun H2 ys s2 e al => ?_)
    · rw [prtV] at ep
      obtain rfl := at_map ep ed
      refine ⟨T, _, rfl, SqT.of eT, rfl, _, _, rfl, _, _, rfl, rfl, rfl, ?_⟩
      refine ⟨_, rfl, _, rfl, _, rfl, d, n, rfl, rk.ft _ (at_mem ed), rk.ok.ft _ (at_mem ed), ?_⟩
      exact mf_yes m hD (fun _ _ _ _ _ h => h) ed (by rw [len_prt rk.ok]; exact Nat.le_trans (frm_len _) (by decide)) (Same.refl _) rfl rfl
    · rw [Rd.filter_all] at al
      refine rd_allT e al ⟨true, rfl, iteF ?_⟩
      have hr2 := tupFix (Fix.of (s1.trans s2)) hr0
      refine ⟨_, hr2, _, at0, rfl, iteN (fun _ => q _ (s1.trans s2)) fun e => ?_⟩
      obtain ⟨x, y, exy, ne, hs⟩ := rk.ab (by injection e)
      unfold rowV at hr2
      rw [exy] at hr2
      refine ⟨_, hr2, _, at1, _, hr2, _, at2, x, y, rfl, ?_, ?_, ne, hs, q _ (s1.trans s2)⟩
      · intro s es
        obtain ⟨k, hk⟩ := as_key len (x := x) (by rw [exy]; simp)
        exact (rk.ft _ hk).al s es
      · intro s es
        obtain ⟨k, hk⟩ := as_key len (x := y) (by rw [exy]; simp)
        exact (rk.ft _ hk).al s es
end
end K3

namespace K3
open PySem PySem.Spec PyProof.Rows L2 Hb St Sq Ow En Zp RZ Rd
local macro_rules | `(tactic| walk_at "wp") => `(tactic| try simp only [cxOf, tKGet, gName, rIxT, rIxL, tOr, tAnd, tB, tCB, tAsg, tTup, tLst, tSl, tNoPart, tPart, tDrop, tBM, tBM0, tPar, tAug, tIf, tYes, tCKw, tSeq, tRet, tRetN, tTest, tOp, tUn, tVar, tC, tCall, tCons, tNil, tIfS, tNext, tAndV, tOrV, tNot, tNotV, rEq, rNe, rI0, rI, L2.start, List.map_cons, List.map_nil, List.cons_append, List.nil_append, List.length_cons, List.length_nil, List.append_nil, Nat.reduceAdd, Nat.reduceSub, Nat.zero_add, List.replicate, List.getElem?_cons_zero, List.getElem?_cons_succ, List.set_cons_zero, List.set_cons_succ, Option.some.injEq, exists_eq_left', exists_eq_left, V.bl.injEq, V.str.injEq, V.int.injEq, V.ref.injEq, V.ty.injEq, List.cons.injEq, and_true, true_and, exists_and_left])
/-- all but the instances is as it was -/
def FixI (H H' : Hp) : Prop := ∀ b o, H b = some o → (∀ C d f, o ≠ .ins C d f) → H' b = some o
theorem FixI.ins {H : Hp} {p C d : Addr} {f : List (Str × V)} {o : HO} (e : H p = some (.ins C d f)) : FixI H (upd H p o) := fun b u eb n => by
  rw [upd_ne fun z => n C d f (by rw [z, e] at eb; exact (Option.some.inj eb).symm)]; exact eb
theorem tupI {K : PySem.W.Frag} {H H' : Hp} {a : Addr} {xs : List V} (f : FixI H H') (h : SqT K H a xs) : SqT K H' a xs := by
  rcases h with (e | ⟨o, e⟩) | r
  · exact .inl (.inl (f _ _ e (by intro _ _ _ z; cases z)))
  · exact .inl (.inr ⟨o, f _ _ e (by intro _ _ _ z; cases z)⟩)
  · exact .inr r
theorem RowH.fixI {K : PySem.W.Frag} {H H' : Hp} {v : V} {r : Rw} (f : FixI H H') (h : RowH K H v r) : RowH K H' v r := let ⟨a, e, q⟩ := h; ⟨a, e, tupI f q⟩
/-! ### data of rows -/
def rowD (r : Rw) : PyData := .tuple (.str r.w :: r.as.map kD)
section
variable {K : PySem.W.Frag} {H : Hp}
theorem dp_keys : ∀ ks : List L2.Key, DpAll K H (ks.map kV) (ks.map kD)
  | [] => .nil
  | k :: ks => .cons (kV_kd k) (dp_keys ks)
theorem RowH.dp {v : V} {r : Rw} (h : RowH K H v r) : Dp K H v (rowD r) := by
  obtain ⟨a, rfl, q⟩ := h
  exact .tup q (.cons (.str _) (dp_keys _))
theorem dp_rows {its : List V} {rows : List Rw} (h : All2 (RowH K H) its rows) : DpAll K H its (rows.map rowD) := by
  induction h with
  | nil => exact .nil
  | cons h _ ih => exact .cons h.dp ih
theorem pu_row {r : Rw} (h : PuR r) : pu (rowD r) = true := by
  unfold rowD
  rw [pu, puA, puA_iff.mpr, Bool.and_true]
  · rw [pu]; exact h.1
  · intro d hd
    obtain ⟨k, hk, rfl⟩ := List.mem_map.mp hd
    exact pu_kD fun y e => h.2 y (e ▸ hk)
theorem pu_rows {rows : List Rw} (h : G rows) : pu (.tuple (rows.map rowD)) = true := by
  rw [pu, puA_iff]
  intro d hd
  obtain ⟨r, hr, rfl⟩ := List.mem_map.mp hd
  exact pu_row (h.pu r hr)
theorem shp {rows : List Rw} (h : G rows) : SeqAt.shaped (.tuple (rows.map rowD)) = true := by
  unfold SeqAt.shaped
  rw [pu_can _ (pu_rows h), decide_eq_true]
  · rfl
  · have := depthAll_le (n := 2) (l := rows.map rowD) fun d hd => by
      obtain ⟨r, hr, rfl⟩ := List.mem_map.mp hd
      have := depthAll_le (n := 1) (l := .str r.w :: r.as.map kD) fun d hd => by
        rcases List.mem_cons.mp hd with e | hd
        · subst e; simp [PyData.depth]
        · obtain ⟨k, hk, rfl⟩ := List.mem_map.mp hd
          exact depth_kD k
      simp only [rowD, PyData.depth]
      omega
    simp only [PyData.depth]
    omega
end
section
variable {P : Program} {w : World} {K : PySem.W.Frag} {mg : Str → Option Value} {base : Heap}
/-! ### __init__ -/
abbrev s_Stair___init__ : Stmt := inClass (top 16) 0
theorem sc_Stair___init__ : FnScope ["self", "rows", "at", "row"] ["self", "rows"] (defScope s_Stair___init__) := ⟨rfl, rfl, rfl, by decide +kernel, rfl, by decide +kernel, by decide +kernel⟩
def spInit (K : PySem.W.Frag) (C : Addr) : Sp := fun vs H Q _ => ∃ (x dx a : Addr) (its : List V) (rows : List Rw), vs = [.ref x, .ref a] ∧ H x = some (.ins C dx []) ∧ SqL K H a its ∧ All2 (RowH K H) its rows ∧ 0 < rows.length ∧ rows.length ≤ 1000 ∧ RkL rows ∧ ∀ H', Kept x H H' → StA K C H' (.ref x) rows → Q .non H'
theorem ok_init {f : Addr} {fd : FuncData} (F : Fun K "__init__" "Stair.__init__" s_Stair___init__ f fd) (TC : Txt K mg C_Stair) (C_is_row : Cl P w K mg base "is_row" ["value", "number"] [] 4 (spIsRow K)) (C_is_sequence : Cl P w K mg base "is_sequence" ["value"] [] 1 (spIsSeq K)) (n_enumerate : mg "enumerate" = none) (n_len : mg "len" = none) (n_tuple : mg "tuple" = none) : FnOk P w K mg base CX0 5 f fd ["self", "rows"] (spInit K C_Stair) := by
  refine F.ok sc_Stair___init__ (fun vs H Q E h => ?_) (fun cdv A outer s H vs Q E hr h => ?_)
  · obtain ⟨_, _, _, _, _, rfl, _⟩ := h
    rfl
  · obtain ⟨x, dx, a, its, rows, rfl, hx, hL, hR, h0, hl, hk, q⟩ := h
    have ha : SqX K H a its := .inl hL
    refine ⟨_, (Evl.pss_cut (ps_if (PW.pt (pw_or (pt_not (pt_val (pe_use C_is_sequence (hr.mono (by decide)) rfl (pa_cons (pv 1) pa_nil)))) (pw_or1 (pt_cmpR op_eq (pe_callB call_len_seq (by rfl) n_len PySem.boot_len (pa_cons (pv 1) pa_nil)) pe_int (nomark _))))) (pss_one (ps_never)) pss_nil)
    (Evl.pss_cut (ps_for PassesOwn.never rfl (pi_or (pi_enum (by rfl) n_enumerate (pa_cons (pv 1) pa_nil)) (pi_enumT (by rfl) n_enumerate (pa_cons (pv 1) pa_nil))) (pg_tup rfl (pgs_cons (pg_name (i := 2) sc_Stair___init__.nd rfl (Or.inl rfl)) (pgs_cons (pg_name (i := 3) sc_Stair___init__.nd rfl (Or.inl rfl)) pgs_nil)))
      (pss_one (ps_if (pt_not (pt_val (pe_use C_is_row (hr.mono (by decide)) rfl (pa_cons (pv 3) (pa_cons (pv 2) pa_nil))))) (pss_one (ps_never)) pss_nil)))
    (pss_one (ps_fld (pv 0) (pe_callTy call_tuple_of (by rfl) n_tuple (by decide +kernel) (pa_cons (pv 1) pa_nil)) rfl)))), ?_⟩
    let σ0 : L2.St := [some (.ref x), some (.ref a), none, none]
    refine ⟨fun σ H' => σ = σ0 ∧ Same H H', ?_, ?_⟩
    · refine ⟨_, rfl, a, its, rfl, ha, fun H1 s1 => ⟨true, rfl, iteF ?_⟩⟩
      walk_at "wp"
      refine ⟨_, sqxSame s1 ha, rfl, iteD (fun e => ?_) fun _ => ⟨rfl, s1⟩⟩
      have := hR.len
      omega
    rintro σ H1 ⟨rfl, s1⟩
    refine ⟨fun σ H' => (∃ o1 o2, σ = [some (.ref x), some (.ref a), o1, o2]) ∧ Same H H', ?_, ?_⟩
    · have turn : ∀ {H2 : Hp} {i : Nat} {y : V} {T : Addr}, its[i]? = some y → Same H H2 → ∃ d, rows[i]? = some d ∧ RowH K H2 y d ∧ Rk i d := fun {H2 i y T} ey s2 => by
        obtain ⟨d, ed, hd⟩ := hR.get ey
        exact ⟨d, ed, hd.same s2, hk i d ed⟩
      rcases sqxSame s1 ha with hl | ht
      · refine .inl ⟨_, rfl, a, _, rfl, hl, ?_⟩
        refine for_en en_list (fun i σ H' => (∃ o1 o2, σ = [some (.ref x), some (.ref a), o1, o2]) ∧ Same H1 H') ⟨⟨none, none, rfl⟩, Same.refl _⟩ (fun i σ H' p => lstSame p.2 hl) ?_ (fun σ H' p => ⟨p.1, s1.trans p.2⟩)
        rintro i σ H4 y T ey ⟨⟨o1, o2, rfl⟩, s4⟩ hT
        have s5 := same_new hT (.tup [.int (i : Nat), y])
        obtain ⟨d, ed, hd, ok⟩ := turn (T := T) ey ((s1.trans s4).trans s5)
        refine ⟨T, _, rfl, SqT.of upd_same, rfl, _, _, rfl, _, _, rfl, rfl, ?_⟩
        refine ⟨_, rfl, _, rfl, y, i, d, rfl, hd, ok, fun H6 s6 => ⟨true, rfl, iteF ⟨⟨_, _, rfl⟩, (s4.trans s5).trans s6⟩⟩⟩
      · refine .inr ⟨_, rfl, a, rfl, ⟨_, ht⟩, ?_⟩
        refine for_en en_tup (fun i σ H' => (∃ o1 o2, σ = [some (.ref x), some (.ref a), o1, o2]) ∧ Same H1 H') ⟨⟨none, none, rfl⟩, Same.refl _⟩ (fun i σ H' p => tupFix (Fix.of p.2) ht) ?_ (fun σ H' p => ⟨p.1, s1.trans p.2⟩)
        rintro i σ H4 y T ey ⟨⟨o1, o2, rfl⟩, s4⟩ hT
        have s5 := same_new hT (.tup [.int (i : Nat), y])
        obtain ⟨d, ed, hd, ok⟩ := turn (T := T) ey ((s1.trans s4).trans s5)
        refine ⟨T, _, rfl, SqT.of upd_same, rfl, _, _, rfl, _, _, rfl, rfl, ?_⟩
        refine ⟨_, rfl, _, rfl, y, i, d, rfl, hd, ok, fun H6 s6 => ⟨true, rfl, iteF ⟨⟨_, _, rfl⟩, (s4.trans s5).trans s6⟩⟩⟩
    rintro σ H4 ⟨⟨o1, o2, rfl⟩, s4⟩
    have fin : ∀ {H5 : Hp} {p : Addr}, Same H H5 → H5 p = some (.tup its) → H5 x = some (.ins C_Stair dx []) → Q .non (upd H5 x (.ins C_Stair dx (flds (.ref p)))) := fun {H5 p} s5 e5 hx5 => by
      have f5 : Fix H5 (upd H5 x (.ins C_Stair dx (flds (.ref p)))) → True := fun _ => trivial
      refine q _ ((Hb.Same.kept s5).trans kept_upd) ⟨x, dx, p, its, rfl, upd_same, ?_, ?_⟩
      · exact FixI.ins hx5 _ _ e5 (by intro _ _ _ z; cases z)
      · exact hR.imp fun _ _ h => (h.same s5).fixI (FixI.ins hx5)
    have hx4 := s4 _ _ hx
    have wr : ∀ {H5 : Hp} {p : Addr}, Same H4 H5 → H5 p = some (.tup its) → ∃ a_1 C dx' fs, V.ref x = V.ref a_1 ∧ H5 a_1 = some (HO.ins C dx' fs) ∧ Cls K C ∧ NoAttr K C "rows" ∧ fs.length < 1000 ∧ Q .non (upd H5 a_1 (HO.ins C dx' (putF "rows" (.ref p) fs))) := fun {H5 p} s5 e5 =>
      ⟨x, _, dx, [], rfl, s5 _ _ hx4, TC.cl, TC.nR, (by show 0 < 1000; decide), fin (s4.trans s5) e5 (s5 _ _ hx4)⟩
    exact ⟨_, rfl, a, its, rfl, .inl ⟨lstSame s4 hL, fun l hn => ⟨_, rfl, wr (same_new hn _) upd_same⟩⟩⟩
/-! ### __eq__ -/
abbrev s_Stair___eq__ : Stmt := inClass (top 16) 1
theorem sc_Stair___eq__ : FnScope ["self", "other"] ["self", "other"] (defScope s_Stair___eq__) := ⟨rfl, rfl, rfl, by decide +kernel, rfl, by decide +kernel, by decide +kernel⟩
def spSEq (K : PySem.W.Frag) (C : Addr) : Sp := fun vs H Q _ => ∃ (x y : V) (rows : List Rw), vs = [x, y] ∧ StA K C H x rows ∧ StA K C H y rows ∧ G rows ∧ Q (.bl true) H
theorem ok_seq {f : Addr} {fd : FuncData} (F : Fun K "__eq__" "Stair.__eq__" s_Stair___eq__ f fd) (TC : Txt K mg C_Stair) (g_Stair : mg "Stair" = some (.ref C_Stair)) (n_isinstance : mg "isinstance" = none) : FnOk P w K mg base CX0 1 f fd ["self", "other"] (spSEq K C_Stair) := by
  refine F.ok sc_Stair___eq__ (fun vs H Q E h => ?_) (fun cdv A outer s H vs Q E hr h => ?_)
  · obtain ⟨_, _, _, rfl, _⟩ := h
    rfl
  · obtain ⟨_, _, rows, rfl, ⟨x, dx, ra, its, rfl, ex, ha, hR⟩, ⟨y, dy, rb, jts, rfl, ey, hb, hS⟩, g, q⟩ := h
    refine ⟨_, (pss_one (ps_ret (pe_and (pe_callB call_isi (by rfl) n_isinstance (by decide +kernel) (pa_cons (pv 1) (pa_cons (pe_glob (v := .ref C_Stair) (by rfl) g_Stair rfl) pa_nil))) (pe_one (pe_cmpR (op_eqD hr.units) (pe_fld (pv 0) rfl) (pe_fld (pv 1) rfl) (nomark _)))))), ?_⟩
    refine ⟨_, rfl, .ref y, .ref C_Stair, _, _, true, rfl, .own C_Stair, .base (.ins ey TC.cl TC.x1 TC.x2 TC.x3 TC.x4), TC.kC, true, rfl, iteT ?_⟩
    refine ⟨_, rfl, x, _, dx, _, _, rfl, ex, TC.cl, TC.nR, fl_rows _, ?_⟩
    refine ⟨_, rfl, y, _, dy, _, _, rfl, ey, TC.cl, TC.nR, fl_rows _, ?_⟩
    have e := (pu_eqv (.tuple (rows.map rowD)) _ (pu_rows g) (pu_rows g)).mpr rfl
    refine ⟨_, _, .tup (SqT.of ha) (dp_rows hR), .tup (SqT.of hb) (dp_rows hS), ?_, ?_, ?_⟩
    · exact shp g
    · exact shp g
    · rw [e]; exact q
/-! ### words_of -/
abbrev s_words_of : Stmt := top 23
theorem sc_words_of : FnScope ["row", "kind", "place", "one"] ["row", "kind"] (defScope s_words_of) := ⟨rfl, rfl, rfl, by decide +kernel, rfl, by decide +kernel, by decide +kernel⟩
def spWordsOf (K : PySem.W.Frag) : Sp := fun vs H Q _ => ∃ (v : V) (n : Nat) (r : Rw) (k : Str), vs = [v, .str k] ∧ RowH K H v r ∧ Rk n r ∧ ∀ p H', Same H H' → H' p = some (.lst (((prt r).filter fun d => decide (d.1 = k)).map fun d => kV d.2)) → Q (.ref p) H'
theorem ok_wordsOf {f : Addr} {fd : FuncData} (F : Fun K "words_of" "words_of" s_words_of f fd) {pF : Addr} (FM : Fms K w mg pF) (n_zip : mg "zip" = none) : FnOk P w K mg base CX0 1 f fd ["row", "kind"] (spWordsOf K) := by
  refine F.ok sc_words_of (fun vs H Q E h => ?_) (fun cdv A outer s H vs Q E hr h => ?_)
  · obtain ⟨_, _, _, _, rfl, _⟩ := h
    rfl
  · obtain ⟨_, n, r, k, rfl, ⟨a, rfl, hr0⟩, rk, q⟩ := h
    obtain ⟨_, _, KF⟩ := FM.D
    obtain ⟨t, kt, ht⟩ := FM.at_ _ rk.wd
    have len := rk.ok.ln
    refine ⟨_, (pss_one (ps_ret (pe_lc (own := [("place", 2), ("one", 3)]) (g := gTup K 2 (gCons (gName 2) (gCons (gName 3) gNil))) rfl sc_words_of.nd (pi_zipA (by rfl) n_zip (pa_cons (pe_ix (r := rIxD K w) ix_kdict (pe_glob (v := .ref pF) (by rfl) FM.g rfl) (pe_ix ix_tup (pv 0) pe_int (fun _ _ => rfl)) (fun _ _ => rfl)) (pa_cons (pe_slice (r := rSlA K) sl_tupA (pv 0) (po_some pe_int) po_none) pa_nil))) (blkOk_by (N := ["row", "kind", "place", "one"]) (sc := defScope s_words_of) (by decide +kernel)) (fun _ _ _ _ _ => pg_tup rfl (pgs_cons (pg_name (i := 2) sc_words_of.nd rfl (Or.inl rfl)) (pgs_cons (pg_name (i := 3) sc_words_of.nd rfl (Or.inl rfl)) pgs_nil))) (fun _ _ _ _ _ => pts_one (pt_cmpR op_eq (pv 2) (pv 1) (nomark _))) (fun _ _ _ _ _ => pv 3)))), ?_⟩
    refine ⟨_, rfl, _, _, _, _, rfl, rfl, hr0, at0, _, _, _, rfl, rfl, kt, ?_⟩
    refine rd_slc rfl hr0 fun p H1 hp s1 e1 => ?_
    refine ⟨t, p, _, _, rfl, .inr ⟨ht H1, SqT.of e1, fun D hD => ?_⟩⟩
    refine lc_mp wp_tup (ds := prt r) (fun d => decide (d.1 = k)) (fun _ y d => y = kV d.2) ⟨ht _, SqT.of e1⟩ hD (by rw [prtV, List.length_map]) (fun _ _ _ _ _ h => h) (fun i T p d H2 ep ed s2 eT m => ?_) (fun H2 ys s2 e al => ?_)
    · rw [prtV] at ep
      obtain rfl := at_map ep ed
      refine ⟨T, _, rfl, SqT.of eT, rfl, _, _, rfl, _, _, rfl, rfl, rfl, ?_⟩
      refine ⟨_, rfl, _, rfl, rfl, _, rfl, ?_⟩
      have hl : (prt r).length ≤ 100000 := by rw [len_prt rk.ok]; exact Nat.le_trans (frm_len _) (by decide)
      refine iteD (fun e => ⟨_, rfl, ?_⟩) fun e => ?_
      · injection e with e
        exact mf_yes m hD (fun _ _ _ _ _ h => h) ed hl (Same.refl _) (decide_eq_true e) rfl
      · exact mf_no m (fun _ _ _ _ _ h => h) ed (Same.refl _) (decide_eq_false fun z => e (congrArg V.str z))
    · obtain rfl := al.map_eq fun _ _ h => h
      exact q D _ ((s1.trans (Same.refl _)).trans s2) e
end
end K3

namespace K3
open PySem PySem.Spec PyProof.Rows L2 Hb St Sq Ow En Zp RZ Rd
local macro_rules | `(tactic| walk_at "wp") => `(tactic| try simp only [cxOf, tKGet, gName, rIxT, rIxL, tOr, tAnd, tB, tCB, tAsg, tTup, tLst, tSl, tNoPart, tPart, tDrop, tBM, tBM0, tPar, tAug, tIf, tYes, tCKw, tSeq, tRet, tRetN, tTest, tOp, tUn, tVar, tC, tCall, tCons, tNil, tIfS, tNext, tAndV, tOrV, tNot, tNotV, rEq, rNe, rI0, rI, L2.start, List.map_cons, List.map_nil, List.cons_append, List.nil_append, List.length_cons, List.length_nil, List.append_nil, Nat.reduceAdd, Nat.reduceSub, Nat.zero_add, List.replicate, List.getElem?_cons_zero, List.getElem?_cons_succ, List.set_cons_zero, List.set_cons_succ, Option.some.injEq, exists_eq_left', exists_eq_left, V.bl.injEq, V.str.injEq, V.int.injEq, V.ref.injEq, V.ty.injEq, List.cons.injEq, and_true, true_and, exists_and_left])
/-! ### words by kind -/
theorem inV_strs (x : Str) : ∀ ns : List Str, inV (.str x) (ns.map V.str) = decide (x ∈ ns) := by
  intro ns
  unfold inV
  rw [List.any_map, Bool.eq_iff_iff, List.any_eq_true, decide_eq_true_iff]
  constructor
  · rintro ⟨y, hy, e⟩
    have e : (y == x) = true := e
    rw [beq_iff_eq] at e
    exact e ▸ hy
  · intro h
    exact ⟨x, h, beq_self_eq_true x⟩
theorem inV_ints (x : Int) : ∀ ns : List Int, inV (.int x) (ns.map V.int) = decide (x ∈ ns) := by
  intro ns
  unfold inV
  rw [List.any_map, Bool.eq_iff_iff, List.any_eq_true, decide_eq_true_iff]
  constructor
  · rintro ⟨y, hy, e⟩
    have e : (y == x) = true := e
    rw [beq_iff_eq] at e
    exact e ▸ hy
  · intro h
    exact ⟨x, h, beq_self_eq_true x⟩
theorem flat_strs (ns : List Str) : (ns.map V.str).all flatV = true := by rw [List.all_map]; exact List.all_eq_true.mpr fun _ _ => rfl
theorem flat_ints (ns : List Int) : (ns.map V.int).all flatV = true := by rw [List.all_map]; exact List.all_eq_true.mpr fun _ _ => rfl
theorem in_strs {K : PySem.W.Frag} {H : Hp} {a : Addr} {ns : List Str} {x : Str} {Q : VK} (h : SqX K H a (ns.map V.str)) (q : Q (.bl (decide (x ∈ ns))) H) : rIn K false (.str x) (.ref a) H Q :=
  ⟨a, _, rfl, h, rfl, flat_strs ns, by rw [inV_strs]; exact q⟩
theorem nin_strs {K : PySem.W.Frag} {H : Hp} {a : Addr} {ns : List Str} {x : Str} {Q : VK} (h : SqX K H a (ns.map V.str)) (q : Q (.bl (!decide (x ∈ ns))) H) : rIn K true (.str x) (.ref a) H Q :=
  ⟨a, _, rfl, h, rfl, flat_strs ns, by rw [inV_strs]; exact q⟩
theorem in_ints {K : PySem.W.Frag} {H : Hp} {a : Addr} {ns : List Int} {x : Int} {Q : VK} (h : SqX K H a (ns.map V.int)) (q : Q (.bl (decide (x ∈ ns))) H) : rIn K false (.int x) (.ref a) H Q :=
  ⟨a, _, rfl, h, rfl, flat_ints ns, by rw [inV_ints]; exact q⟩
def kws (k : Str) (r : Rw) : List L2.Key := ((prt r).filter fun d => decide (d.1 = k)).map (·.2)
theorem kws_V (k : Str) (r : Rw) : (((prt r).filter fun d => decide (d.1 = k)).map fun d => kV d.2) = (kws k r).map kV := by
  unfold kws
  rw [List.map_map]; rfl
def nmOf : L2.Key → Option Str
  | .inr s => some s
  | .inl _ => none
def nms (k : Str) (r : Rw) : List Str := (kws k r).filterMap nmOf
theorem kws_mem {k : Str} {r : Rw} {x : L2.Key} (h : x ∈ kws k r) : (k, x) ∈ prt r := by
  obtain ⟨d, hd, rfl⟩ := List.mem_map.mp h
  obtain ⟨h1, h2⟩ := List.mem_filter.mp hd
  have : d.1 = k := of_decide_eq_true h2
  rw [← this]
  exact h1
theorem kws_len (k : Str) (r : Rw) : (kws k r).length ≤ 2 := by
  unfold kws
  rw [List.length_map]
  refine Nat.le_trans (List.length_filter_le _ _) ?_
  unfold prt
  rw [List.length_zip]
  exact Nat.le_trans (Nat.min_le_left _ _) (frm_len _)
theorem nms_len (k : Str) (r : Rw) : (nms k r).length ≤ 2 := Nat.le_trans (List.length_filterMap_le _ _) (kws_len k r)
theorem filt_nm (ks : List L2.Key) : (ks.filter fun x => x.isRight).map kV = (ks.filterMap nmOf).map V.str := by
  induction ks with
  | nil => rfl
  | cons x ks ih =>
    cases x with
    | inl i => exact ih
    | inr s => exact congrArg (V.str s :: ·) ih
theorem all_nm {n : Nat} {r : Rw} (h : Rk n r) {k : Str} (hk : k = "thing" ∨ k = "bell") : (kws k r).map kV = (nms k r).map V.str := by
  unfold nms
  rw [← filt_nm, List.filter_eq_self.mpr]
  intro x hx
  obtain ⟨s, e⟩ := (h.ft _ (kws_mem hx)).nm hk
  have e : x = .inr s := e
  rw [e]; rfl
theorem row_int {n : Nat} {r : Rw} (h : Ok n r) : (kws "row" r).map kV = ((rargs r).map fun (a : Nat) => (a : Int)).map V.int := by
  unfold kws rargs
  rw [List.map_map, List.map_map, List.map_map]
  refine List.map_congr_left fun d hd => ?_
  obtain ⟨h1, h2⟩ := List.mem_filter.mp hd
  obtain ⟨i, e, _⟩ := h.ft d h1 h2
  show kV d.2 = V.int (nat d.2 : Nat)
  rw [e]; rfl
def thL (rows : List Rw) : List Str := rows.flatMap fun r => nms "side" r ++ nms "thing" r
def blL (rows : List Rw) : List Str := rows.flatMap fun r => nms "bell" r
theorem thL_len (rows : List Rw) : (thL rows).length ≤ 4 * rows.length := by
  unfold thL
  induction rows with
  | nil => exact Nat.le_refl _
  | cons r rows ih =>
    rw [List.flatMap_cons, List.length_append, List.length_append, List.length_cons]
    have := nms_len "side" r
    have := nms_len "thing" r
    omega
theorem blL_len (rows : List Rw) : (blL rows).length ≤ 4 * rows.length := by
  unfold blL
  induction rows with
  | nil => exact Nat.le_refl _
  | cons r rows ih =>
    rw [List.flatMap_cons, List.length_append, List.length_cons]
    have := nms_len "bell" r
    omega
theorem thL_snoc (rows : List Rw) (r : Rw) : thL (rows ++ [r]) = thL rows ++ (nms "side" r ++ nms "thing" r) := by
  unfold thL
  rw [List.flatMap_append]; simp
theorem blL_snoc (rows : List Rw) (r : Rw) : blL (rows ++ [r]) = blL rows ++ nms "bell" r := by
  unfold blL
  rw [List.flatMap_append]; simp
theorem take_snoc {α : Type} {l : List α} {i : Nat} {d : α} (h : l[i]? = some d) : l.take (i + 1) = l.take i ++ [d] := by rw [List.take_add_one, h]; rfl
section
variable {P : Program} {w : World} {K : PySem.W.Frag} {mg : Str → Option Value} {base : Heap}
/-! ### stair_names -/
abbrev s_stair_names : Stmt := top 24
theorem sc_stair_names : FnScope ["stair", "things", "bells", "row", "sides", "one"] ["stair"] (defScope s_stair_names) := ⟨rfl, rfl, rfl, by decide +kernel, rfl, by decide +kernel, by decide +kernel⟩
def spNames (K : PySem.W.Frag) (C : Addr) : Sp := fun vs H Q _ => ∃ (v : V) (rows : List Rw), vs = [v] ∧ StA K C H v rows ∧ RkL rows ∧ rows.length ≤ 100 ∧ ∀ p a b H', Same H H' → H' p = some (.tup [.ref a, .ref b]) → H' a = some (.tup ((lotS (thL rows)).map V.str)) → H' b = some (.tup ((lotS (blL rows)).map V.str)) → Q (.ref p) H'
theorem ok_names {f : Addr} {fd : FuncData} (F : Fun K "stair_names" "stair_names" s_stair_names f fd) (TC : Txt K mg C_Stair) (C_as_lot : Cl P w K mg base "as_lot" ["values"] [] 1 (spLot K)) (C_is_name : Cl P w K mg base "is_name" ["value"] [] 1 spIsName) (C_words_of : Cl P w K mg base "words_of" ["row", "kind"] [] 1 (spWordsOf K)) : FnOk P w K mg base CX0 3 f fd ["stair"] (spNames K C_Stair) := by
  refine F.ok sc_stair_names (fun vs H Q E h => ?_) (fun cdv A outer s H vs Q E hr h => ?_)
  · obtain ⟨_, _, rfl, _⟩ := h
    rfl
  · obtain ⟨_, rows, rfl, ⟨x, dx, ra, its, rfl, ex, ha, hR⟩, hk, hl, q⟩ := h
    refine ⟨_, (pss_cons (ps_set (i := 1) sc_stair_names.nd rfl (Or.inl rfl) (pe_lst pa_nil))
    (pss_cons (ps_set (i := 2) sc_stair_names.nd rfl (Or.inl rfl) (pe_lst pa_nil))
    (Evl.pss_cut (ps_for PassesOwn.never rfl (pi_seq (pe_fld (pv 0) rfl)) (pg_name (i := 3) sc_stair_names.nd rfl (Or.inl rfl))
      (Evl.pss_cut (ps_setLc (i := 4) (own := [("one", 5)]) (g := gName 5) (by rfl) sc_stair_names.nd rfl rfl (sw_true rfl rfl rfl (by decide +kernel)) (pi_seq (pe_use C_words_of (hr.mono (by decide)) rfl (pa_cons (pv 3) (pa_cons pe_str pa_nil)))) (blkOk_by (N := ["stair", "things", "bells", "row", "sides", "one"]) (sc := defScope s_stair_names) (by decide +kernel)) (fun _ _ _ _ _ => pg_name (i := 5) sc_stair_names.nd rfl (Or.inl rfl)) (fun _ _ _ _ _ => pts_one (pt_val (pe_use C_is_name (hr.mono (by decide)) rfl (pa_cons (pv 5) pa_nil)))) (fun _ _ _ _ _ => pv 5))
    (pss_cons (ps_set (i := 1) sc_stair_names.nd rfl (Or.inl rfl) (pe_op op_cat (pe_op op_cat (pv 1) (pv 4)) (pe_use C_words_of (hr.mono (by decide)) rfl (pa_cons (pv 3) (pa_cons pe_str pa_nil)))))
    (pss_one (ps_set (i := 2) sc_stair_names.nd rfl (Or.inl rfl) (pe_op op_cat (pv 2) (pe_use C_words_of (hr.mono (by decide)) rfl (pa_cons (pv 3) (pa_cons pe_str pa_nil)))))))))
    (pss_one (ps_ret (pe_tup (pa_cons (pe_use C_as_lot (hr.mono (by decide)) rfl (pa_cons (pv 1) pa_nil)) (pa_cons (pe_use C_as_lot (hr.mono (by decide)) rfl (pa_cons (pv 2) pa_nil)) pa_nil)))))))), ?_⟩
    refine ⟨by show 0 ≤ sizeLine; decide, fun t0 h0 => ?_⟩
    have s0 := same_new h0 (.lst [])
    refine ⟨by show 0 ≤ sizeLine; decide, fun b0 h1 => ?_⟩
    have s1 := same_new h1 (.lst [])
    have et : (upd (upd H t0 (.lst [])) b0 (.lst [])) t0 = some (.lst []) := s1 _ _ upd_same
    have eb : (upd (upd H t0 (.lst [])) b0 (.lst [])) b0 = some (.lst []) := upd_same
    replace s1 := s0.trans s1
    generalize upd (upd H t0 (.lst [])) b0 (.lst []) = H1 at s1 et eb ⊢
    refine ⟨fun σ H' => ∃ o3 o4 t b, σ = [some (.ref x), some (.ref t), some (.ref b), o3, o4, none] ∧ Same H H' ∧ H' t = some (.lst ((thL rows).map V.str)) ∧ H' b = some (.lst ((blL rows).map V.str)), ?_, ?_⟩
    · refine ⟨_, rfl, x, _, dx, _, _, rfl, s1 _ _ ex, TC.cl, TC.nR, fl_rows _, ra, its, rfl, .inr (SqT.of (s1 _ _ ha)), fun J S Wk k0 => ?_⟩
      refine for_sq Wk (fun i σ H' => ∃ o3 o4 t b, σ = [some (.ref x), some (.ref t), some (.ref b), o3, o4, none] ∧ Same H1 H' ∧ H' t = some (.lst ((thL (rows.take i)).map V.str)) ∧ H' b = some (.lst ((blL (rows.take i)).map V.str))) ⟨none, none, t0, b0, rfl, Same.refl _, et, eb⟩ (fun i σ H' p => Wk.keep (fun o e => let ⟨_, _, _, _, _, s, _⟩ := p; s _ _ e) k0) ?_ ?_
      · rintro i σ H2 y ey ⟨o3, o4, t, b, rfl, s2, e1, e2⟩
        obtain ⟨d, ed, hd⟩ := hR.get ey
        have hd2 := hd.same (s1.trans s2)
        have rk := hk i d ed
        refine ⟨fun σ H' => ∃ s, σ = [some (.ref x), some (.ref t), some (.ref b), some y, some (.ref s), none] ∧ Same H2 H' ∧ H' s = some (.lst ((nms "side" d).map V.str)), ?_, ?_⟩
        · refine ⟨_, rfl, y, i, d, "side", rfl, hd2, rk, fun p H3 s3 e3 => ?_⟩
          rw [kws_V] at e3
          refine ⟨p, _, rfl, SqX.lst e3, fun J S W k D hD => ?_⟩
          refine lc_mf (ds := kws "side" d) W (fun x => x.isRight) (fun _ y x => y = kV x) k hD (by rw [List.length_map]) (fun i x z H4 ex ez s4 m => ?_) (fun H4 ys s4 e al => ?_)
          · obtain rfl := at_map ex ez
            have zl : (kws "side" d).length ≤ 100000 := Nat.le_trans (kws_len _ _) (by decide)
            refine ⟨rfl, _, rfl, z, rfl, fun s e => ?_, ?_⟩
            · exact (rk.ft _ (kws_mem (at_mem ez))).al s e
            · refine ⟨_, rfl, ?_⟩
              cases hz : z.isRight with
              | true => exact iteT ⟨_, rfl, mf_yes m hD (fun _ _ _ _ _ h => h) ez zl (Same.refl _) hz rfl⟩
              | false => exact iteF (mf_no m (fun _ _ _ _ _ h => h) ez (Same.refl _) hz)
          · obtain rfl := al.map_eq fun _ _ h => h
            rw [filt_nm] at e
            exact ⟨D, rfl, s3.trans s4, e⟩
        rintro σ H3 ⟨s, rfl, s3, e3⟩
        have a2 : ∀ k : Str, (nms k d).length ≤ 2 := fun k => nms_len k d
        have tl := thL_len (rows.take i)
        have bl := blL_len (rows.take i)
        have il : (rows.take i).length ≤ 100 := Nat.le_trans (by rw [List.length_take]; exact Nat.min_le_right _ _) hl
        have e1' := s3 _ _ e1
        refine ⟨_, rfl, _, rfl, t, s, _, _, rfl, rfl, e1', e3, ?_, fun q1 hq1 => ?_⟩
        · rw [List.length_map, List.length_map]
          have := a2 "side"
          rw [sizeLine_eq]; omega
        have s4 := same_new hq1 (.lst ((thL (rows.take i)).map V.str ++ (nms "side" d).map V.str))
        refine ⟨_, rfl, y, i, d, "thing", rfl, (hd2.same s3).same s4, rk, fun p H5 s5 e5 => ?_⟩
        rw [kws_V, all_nm rk (.inl rfl)] at e5
        refine ⟨q1, p, _, _, rfl, rfl, s5 _ _ upd_same, e5, ?_, fun t' ht' => ?_⟩
        · rw [List.length_append, List.length_map, List.length_map, List.length_map]
          have := a2 "side"
          have := a2 "thing"
          rw [sizeLine_eq]; omega
        have s6 := same_new ht' (.lst ((thL (rows.take i)).map V.str ++ (nms "side" d).map V.str ++ (nms "thing" d).map V.str))
        have e6 : (upd H5 t' (.lst ((thL (rows.take i)).map V.str ++ (nms "side" d).map V.str ++ (nms "thing" d).map V.str))) t' = some (.lst ((thL (rows.take (i + 1))).map V.str)) := by
          rw [upd_same, take_snoc ed, thL_snoc, List.map_append, List.map_append, List.append_assoc]
        generalize upd H5 t' (.lst ((thL (rows.take i)).map V.str ++ (nms "side" d).map V.str ++ (nms "thing" d).map V.str)) = H6 at s6 e6 ⊢
        have s36 := ((s4.trans s5).trans s6)
        generalize upd H3 q1 (.lst ((thL (rows.take i)).map V.str ++ (nms "side" d).map V.str)) = H4 at s4 s5 s36 ⊢
        refine ⟨_, rfl, _, rfl, y, i, d, "bell", rfl, (hd2.same s3).same s36, rk, fun p H7 s7 e7 => ?_⟩
        rw [kws_V, all_nm rk (.inr rfl)] at e7
        refine ⟨b, p, _, _, rfl, rfl, s7 _ _ (s36 _ _ (s3 _ _ e2)), e7, ?_, fun b' hb' => ?_⟩
        · rw [List.length_map, List.length_map]
          have := a2 "bell"
          rw [sizeLine_eq]; omega
        have s8 := same_new hb' (.lst ((blL (rows.take i)).map V.str ++ (nms "bell" d).map V.str))
        refine ⟨_, _, t', b', rfl, (((s2.trans s3).trans s36).trans s7).trans s8, s8 _ _ (s7 _ _ e6), ?_⟩
        rw [upd_same, take_snoc ed, blL_snoc, List.map_append]
      · rintro σ H2 ⟨o3, o4, t, b, rfl, s2, e1, e2⟩
        rw [List.take_of_length_le (by rw [hR.len]; exact Nat.le_refl _)] at e1 e2
        exact ⟨o3, o4, t, b, rfl, s1.trans s2, e1, e2⟩
    rintro σ H2 ⟨o3, o4, t, b, rfl, s2, e1, e2⟩
    refine ⟨_, rfl, t, rfl, .inl ⟨thL rows, SqX.lst e1, Nat.le_trans (thL_len _) (by omega), fun p1 H3 s3 e3 => ?_⟩⟩
    refine ⟨_, rfl, b, rfl, .inl ⟨blL rows, SqX.lst (s3 _ _ e2), Nat.le_trans (blL_len _) (by omega), fun p2 H4 s4 e4 => ?_⟩⟩
    refine ⟨by show 2 ≤ sizeLine; decide, fun p hp => ?_⟩
    have s5 := same_new hp (.tup [.ref p1, .ref p2])
    exact q p p1 p2 _ (((s2.trans s3).trans s4).trans s5) upd_same (s5 _ _ (s4 _ _ e3)) (s5 _ _ e4)
end
end K3

namespace K3
open PySem PySem.Spec PyProof.Rows L2 Hb St Sq Ow En Zp RZ Rd StX
local macro_rules | `(tactic| walk_at "wp") => `(tactic| try simp only [cxOf, tKGet, gName, rIxT, rIxL, tOr, tAnd, tB, tCB, tAsg, tTup, tLst, tSl, tNoPart, tPart, tDrop, tBM, tBM0, tPar, tAug, tIf, tYes, tCKw, tSeq, tRet, tRetN, tTest, tOp, tUn, tVar, tC, tCall, tCons, tNil, tIfS, tNext, tAndV, tOrV, tNot, tNotV, rEq, rNe, rI0, rI, L2.start, List.map_cons, List.map_nil, List.cons_append, List.nil_append, List.length_cons, List.length_nil, List.append_nil, Nat.reduceAdd, Nat.reduceSub, Nat.zero_add, List.replicate, List.getElem?_cons_zero, List.getElem?_cons_succ, List.set_cons_zero, List.set_cons_succ, Option.some.injEq, exists_eq_left', exists_eq_left, V.bl.injEq, V.str.injEq, V.int.injEq, V.ref.injEq, V.ty.injEq, List.cons.injEq, and_true, true_and, exists_and_left])
section
variable {P : Program} {w : World} {K : PySem.W.Frag} {mg : Str → Option Value} {base : Heap}
def soonL : List Str := ["soon", "lately"]
def untlL : List Str := ["until", "since"]
theorem untl_in (x : Str) : decide (x ∈ untlL) = untl x := by
  unfold untl untlL
  exact decide_eq_decide.mpr (by simp)
/-! ### is_timeless -/
abbrev s_is_timeless : Stmt := top 25
theorem sc_is_timeless : FnScope ["stair", "row"] ["stair"] (defScope s_is_timeless) := ⟨rfl, rfl, rfl, by decide +kernel, rfl, by decide +kernel, by decide +kernel⟩
def tless (rows : List Rw) : Bool := rows.all fun r => !decide (r.w ∈ soonL)
def spTimeless (K : PySem.W.Frag) (C : Addr) : Sp := fun vs H Q _ => ∃ (v : V) (rows : List Rw), vs = [v] ∧ StA K C H v rows ∧ rows.length ≤ 100 ∧ ∀ H', Same H H' → Q (.bl (tless rows)) H'
theorem ok_timeless {f : Addr} {fd : FuncData} (F : Fun K "is_timeless" "is_timeless" s_is_timeless f fd) (TC : Txt K mg C_Stair) (n_all : mg "all" = none) : FnOk P w K mg base CX0 1 f fd ["stair"] (spTimeless K C_Stair) := by
  refine F.ok sc_is_timeless (fun vs H Q E h => ?_) (fun cdv A outer s H vs Q E hr h => ?_)
  · obtain ⟨_, _, rfl, _⟩ := h
    rfl
  · obtain ⟨_, rows, rfl, ⟨x, dx, ra, its, rfl, ex, ha, hR⟩, hl, q⟩ := h
    refine ⟨_, (pss_one (ps_ret (pe_callB (cr_all rfl) (by rfl) n_all (by decide +kernel) (pa_cons (pe_lc (own := [("row", 1)]) (g := gName 1) rfl sc_is_timeless.nd (pi_seq (pe_fld (pv 0) rfl)) (blkOk_by (N := ["stair", "row"]) (sc := defScope s_is_timeless) (by decide +kernel)) (fun _ _ _ _ _ => pg_name (i := 1) sc_is_timeless.nd rfl (Or.inl rfl)) (fun _ _ _ _ _ => pts_nil) (fun _ _ _ _ _ => pe_cmpR (r := rIn K true) op_notIn_seq (pe_ix (r := rIxT K) ix_tup (pv 1) pe_int (fun _ _ => rfl)) (pe_tup (pa_cons pe_str (pa_cons pe_str pa_nil))) rfl)) pa_nil)))), ?_⟩
    refine ⟨_, rfl, x, _, dx, _, _, rfl, ex, TC.cl, TC.nR, fl_rows _, ra, its, rfl, .inr (SqT.of ha), fun J S W k D hD => ?_⟩
    refine lc_mf (ds := rows) W (fun _ => true) (fun _ y r => y = .bl (!decide (r.w ∈ soonL))) k hD hR.len (fun i y d H2 ey ed s m => ?_) (fun H2 ys s e al => ?_)
    · obtain ⟨d', ed', hd⟩ := hR.get ey
      obtain rfl : d' = d := Option.some.inj (ed'.symm.trans ed)
      obtain ⟨ya, rfl, hda⟩ := hd.same s
      refine ⟨rfl, _, rfl, ya, _, _, _, rfl, rfl, hda, at0, ?_⟩
      refine ⟨by show 2 ≤ sizeLine; decide, fun t ht => ?_⟩
      have s2 := same_new ht (.tup [.str "soon", .str "lately"])
      refine nin_strs (ns := soonL) (.inr (SqT.of upd_same)) ?_
      exact mf_yes m hD (fun _ _ _ _ _ h => h) ed (by omega) s2 rfl rfl
    · rw [Rd.filter_all] at al
      have ey : ys = (rows.map fun r => !decide (r.w ∈ soonL)).map V.bl := by
        rw [List.map_map]
        exact al.map_eq fun _ _ h => h
      subst ey
      refine rd_all (SqL.of e) ?_
      rw [List.all_map]
      exact q H2 s
/-! ### stair_depth -/
abbrev s_stair_depth : Stmt := top 26
theorem sc_stair_depth : FnScope ["stair", "depths", "row", "depth", "at"] ["stair"] (defScope s_stair_depth) := ⟨rfl, rfl, rfl, by decide +kernel, rfl, by decide +kernel, by decide +kernel⟩
def spDepth (K : PySem.W.Frag) (C : Addr) : Sp := fun vs H Q _ => ∃ (v : V) (rows : List Rw), vs = [v] ∧ StA K C H v rows ∧ RkL rows ∧ 0 < rows.length ∧ rows.length ≤ 100 ∧ ∀ H', Same H H' → Q (.int (dp (lastT rows) : Nat)) H'
theorem mx_ge {ns : List Nat} : ∀ n ∈ ns, n ≤ mx ns := by
  induction ns with
  | nil => intro n h; cases h
  | cons k ns ih =>
    intro n h
    show n ≤ max k (mx ns)
    rcases List.mem_cons.mp h with e | h
    · omega
    · have := ih n h
      omega
theorem mx_mem : ∀ {ns : List Nat}, ns ≠ [] → mx ns ∈ ns
  | [n], _ => by simp [mx]
  | n :: k :: ns, _ => by
    have ih := mx_mem (ns := k :: ns) (by simp)
    show max n (mx (k :: ns)) ∈ _
    rcases Nat.le_total n (mx (k :: ns)) with h | h
    · rw [Nat.max_eq_right h]; exact List.mem_cons_of_mem _ ih
    · rw [Nat.max_eq_left h]; exact List.mem_cons_self
theorem mx_is {ns : List Nat} (m : Int) (h1 : m ∈ ns.map fun (n : Nat) => (n : Int)) (h2 : ∀ y ∈ ns.map fun (n : Nat) => (n : Int), y ≤ m) : m = (mx ns : Nat) := by
  obtain ⟨k, hk, rfl⟩ := List.mem_map.mp h1
  have a := mx_ge k hk
  have b := h2 _ (List.mem_map.mpr ⟨_, mx_mem (ns := ns) (fun e => by rw [e] at hk; cases hk), rfl⟩)
  omega
theorem rd_maxDf {K : PySem.W.Frag} {H : Hp} {Q : VK} {a : Addr} {ns : List Nat} (h : SqL K H a (ns.map fun (n : Nat) => V.int n)) (q : Q (.int (mx ns : Nat)) H) : rMaxDf K [.ref a] [.int 0] H Q := by
  refine ⟨a, ns.map fun (n : Nat) => (n : Int), 0, rfl, rfl, by rw [List.map_map]; exact h, fun e => ?_, fun m hm hall => ?_⟩
  · obtain rfl : ns = [] := by simpa using e
    exact q
  · rw [mx_is m hm hall]
    exact q
theorem dps_len (rows : List Rw) : (dps rows).length = rows.length := by
  refine rev_ind (P := fun rows => (dps rows).length = rows.length) rfl (fun l x ih => ?_) rows
  rw [dps_snoc, dstp, List.length_append, List.length_append, ih]; rfl
theorem ok_depth {f : Addr} {fd : FuncData} (F : Fun K "stair_depth" "stair_depth" s_stair_depth f fd) (TC : Txt K mg C_Stair) (C_words_of : Cl P w K mg base "words_of" ["row", "kind"] [] 1 (spWordsOf K)) (n_max : mg "max" = none) : FnOk P w K mg base CX0 2 f fd ["stair"] (spDepth K C_Stair) := by
  refine F.ok sc_stair_depth (fun vs H Q E h => ?_) (fun cdv A outer s H vs Q E hr h => ?_)
  · obtain ⟨_, _, rfl, _⟩ := h
    rfl
  · obtain ⟨_, rows, rfl, ⟨x, dx, ra, its, rfl, ex, ha, hR⟩, hk, h0, hl, q⟩ := h
    refine ⟨_, (pss_cons (ps_set (i := 1) sc_stair_depth.nd rfl (Or.inr rfl) (pe_lst pa_nil))
    (Evl.pss_cut (ps_for PassesOwn.never rfl (pi_seq (pe_fld (pv 0) rfl)) (pg_name (i := 2) sc_stair_depth.nd rfl (Or.inl rfl))
      (pss_cons (ps_set (i := 3) sc_stair_depth.nd rfl (Or.inl rfl) (pe_callBK (cr_maxDf rfl hr.units) (by rfl) n_max PyProof.Rows.boot_max (pa_cons (pe_lc (own := [("at", 4)]) (g := gName 4) rfl sc_stair_depth.nd (pi_seq (pe_use C_words_of (hr.mono (by decide)) rfl (pa_cons (pv 2) (pa_cons pe_str pa_nil)))) (blkOk_by (N := ["stair", "depths", "row", "depth", "at"]) (sc := defScope s_stair_depth) (by decide +kernel)) (fun _ _ _ _ _ => pg_name (i := 4) sc_stair_depth.nd rfl (Or.inl rfl)) (fun _ _ _ _ _ => pts_nil) (fun _ _ _ _ _ => pe_ix (r := rIxL K) ix_list (pv 1) (pv 4) (fun _ _ => rfl))) pa_nil) (pk_cons pe_int pk_nil)))
    (Evl.pss_cut (ps_if (pt_cmpR op_in_seq (pe_ix ix_tup (pv 2) pe_int (fun _ _ => rfl)) (pe_tup (pa_cons pe_str (pa_cons pe_str pa_nil))) rfl) (pss_one (ps_aug (i := 3) sc_stair_depth.nd rfl (Or.inl rfl) pe_int ip_add)) pss_nil)
    (pss_one (ps_expr (pe_bm PySem.F.plainAttrs_list PySem.F.slot_list_append PySem.F.type_list_append mt_append (pv 1) (pa_cons (pv 3) pa_nil)))))))
    (pss_one (ps_ret (pe_ix ix_list (pv 1) (pe_un un_neg pe_int) (fun _ _ => rfl)))))), ?_⟩
    refine ⟨by show 0 ≤ sizeLine; decide, fun D0 hn => ?_⟩
    have s0 := same_new hn (.lst [])
    have e0 : (upd H D0 (.lst [])) D0 = some (.lst []) := upd_same
    generalize upd H D0 (.lst []) = H1 at s0 e0 ⊢
    refine ⟨fun σ H' => ∃ o2 o3, σ = [some (.ref x), some (.ref D0), o2, o3, none] ∧ Same H H' ∧ H' D0 = some (.lst ((dps rows).map fun (n : Nat) => V.int n)), ?_, ?_⟩
    · refine ⟨_, rfl, x, _, dx, _, _, rfl, s0 _ _ ex, TC.cl, TC.nR, fl_rows _, ra, its, rfl, .inr (SqT.of (s0 _ _ ha)), fun J S Wk k0 => ?_⟩
      have hne : ∀ {b o}, H b = some o → b ≠ D0 := fun e => ne_of_none e hn
      refine for_sq Wk (fun i σ H' => ∃ o2 o3, σ = [some (.ref x), some (.ref D0), o2, o3, none] ∧ Same H H' ∧ Kept D0 H1 H' ∧ H' D0 = some (.lst ((dps (rows.take i)).map fun (n : Nat) => V.int n))) ⟨none, none, rfl, s0, Kept.refl _ _, e0⟩ (fun i σ H' p => ?_) ?_ ?_
      · obtain ⟨_, _, _, _, k, _⟩ := p
        exact Wk.keep (fun o e => k _ _ e (hne ha)) k0
      · rintro i σ H2 y ey ⟨o2, o3, rfl, s2, k2, e2⟩
        obtain ⟨d, ed, hd⟩ := hR.get ey
        have hd2 := hd.same s2
        have rk := hk i d ed
        refine ⟨_, rfl, y, i, d, "row", rfl, hd2, rk, fun p H3 s3 e3 => ?_⟩
        rw [kws_V, row_int rk.ok] at e3
        refine ⟨p, _, rfl, SqX.lst e3, fun J S W k D hD => ?_⟩
        refine lc_mf (ds := rargs d) W (fun _ => true) (fun _ y a => y = .int ((dps (rows.take i)).getD a 0 : Nat)) k hD (by rw [List.length_map, List.length_map]) (fun j z a H4 ez ea s4 m => ?_) (fun H4 ys s4 e al => ?_)
        · rw [List.map_map] at ez
          obtain rfl := at_map ez ea
          have hi : i < rows.length := (List.getElem?_eq_some_iff.mp ed).1
          have la : a < (dps (rows.take i)).length := by
            rw [dps_len, List.length_take]
            have := rargs_lt rk.ok (at_mem ea)
            omega
          refine ⟨rfl, _, rfl, _, rfl, D0, _, _, _, rfl, rfl, SqL.of (s4 _ _ (s3 _ _ e2)), at_nat (i := a) (x := V.int ((dps (rows.take i)).getD a 0 : Nat)) ?_, ?_⟩
          · rw [List.getElem?_map, List.getElem?_eq_getElem la, getD_lt la]; rfl
          · exact mf_yes m hD (fun _ _ _ _ _ h => h) ea (Nat.le_trans (rargs_len d) (by decide)) (Same.refl _) rfl rfl
        rw [Rd.filter_all] at al
        obtain rfl := al.map_eq fun _ _ h => h
        walk_at "wp"
        refine rd_maxDf (ns := (rargs d).map fun a => (dps (rows.take i)).getD a 0) (SqL.of (by rw [List.map_map]; exact e)) ?_
        have e4 := s4 _ _ (s3 _ _ e2)
        have s24 := s3.trans s4
        generalize hm : mx ((rargs d).map fun a => (dps (rows.take i)).getD a 0) = m
        refine ⟨fun σ H' => σ = [some (.ref x), some (.ref D0), some y, some (.int ((m + if untl d.w then 1 else 0 : Nat) : Int)), none] ∧ Same H4 H', ?_, ?_⟩
        · obtain ⟨ya, rfl, hda⟩ := hd2.same s24
          refine ⟨_, rfl, ya, _, _, _, rfl, rfl, hda, at0, ?_⟩
          refine ⟨by show 2 ≤ sizeLine; decide, fun t ht => ?_⟩
          have s5 := same_new ht (.tup [.str "until", .str "since"])
          refine in_strs (ns := untlL) (.inr (SqT.of upd_same)) ?_
          rw [untl_in]
          refine ⟨_, rfl, ?_⟩
          cases hu : untl d.w with
          | true => exact iteT ⟨_, rfl, _, _, rfl, rfl, rfl, s5⟩
          | false => exact iteF ⟨rfl, s5⟩
        rintro σ H5 ⟨rfl, s5⟩
        have e5 := s5 _ _ e4
        have s25 := s24.trans s5
        refine ⟨_, rfl, ?_, _, rfl, D0, _, _, rfl, rfl, e5, ?_, ?_⟩
        · exact .inl ⟨rfl, _, SqL.of e5⟩
        · rw [List.length_map, dps_len, List.length_take, sizeLine_eq]; omega
        refine ⟨_, _, rfl, fun b o eb => ?_, (k2.trans (Hb.Same.kept s25)).trans kept_upd, ?_⟩
        · rw [upd_ne (hne eb)]; exact s25 _ _ (s2 _ _ eb)
        · rw [upd_same, take_snoc ed, dps_snoc, dstp, List.map_append, hm]; rfl
      · rintro σ H2 ⟨o2, o3, rfl, s2, k2, e2⟩
        rw [List.take_of_length_le (by rw [hR.len]; exact Nat.le_refl _)] at e2
        exact ⟨o2, o3, rfl, s2, e2⟩
    rintro σ H2 ⟨o2, o3, rfl, s2, e2⟩
    have hp : 0 < (dps rows).length := by rw [dps_len]; exact h0
    have el : (dps rows).map (fun (n : Nat) => V.int n) = ((dps rows).take (rows.length - 1)).map (fun (n : Nat) => V.int n) ++ [V.int (dp (lastT rows) : Nat)] := by
      have : dps rows = (dps rows).take (rows.length - 1) ++ [dp (lastT rows)] := by
        have g := hk.g
        have h1 : rows.length - 1 < (dps rows).length := by rw [dps_len]; omega
        have := take_snoc (l := dps rows) (i := rows.length - 1) (d := (dps rows)[rows.length - 1]) (List.getElem?_eq_getElem h1)
        rw [List.take_of_length_le (by rw [dps_len]; omega)] at this
        refine this.trans ?_
        congr 2
        have h2 : rows.length - 1 < (trs rows).length := by rw [trs_len]; omega
        simp only [dps_eq g.ok, List.getElem_map, lastT, tu]
        rw [getD_lt h2]
      exact (congrArg (List.map fun (n : Nat) => V.int n) this).trans (by rw [List.map_append]; rfl)
    rw [el] at e2
    exact ⟨_, rfl, 1, rfl, D0, _, _, _, rfl, rfl, SqL.of e2, at_last, q _ s2⟩
/-! ### renumbered_row -/
def NumH (K : PySem.W.Frag) (H : Hp) (nb : Addr) (g : Nat → Nat) (as : List Nat) : Prop := (∃ xs, SqL K H nb xs ∧ ∀ a ∈ as, xs[a]? = some (.int (g a : Nat))) ∨ ∃ kvs : List (L2.Key × V), H nb = some (.dK kvs) ∧ ∀ a ∈ as, valV kvs (.inl (a : Nat)) = some (.int (g a : Nat))
theorem NumH.same {H H' : Hp} {nb : Addr} {g : Nat → Nat} {as : List Nat} (s : Same H H') (h : NumH K H nb g as) : NumH K H' nb g as := h.imp (fun ⟨xs, a, b⟩ => ⟨xs, lstSame s a, b⟩) fun ⟨k, a, b⟩ => ⟨k, s _ _ a, b⟩
abbrev s_renumbered_row : Stmt := top 28
theorem sc_renumbered_row : FnScope ["row", "numbers", "words", "place", "one"] ["row", "numbers"] (defScope s_renumbered_row) := ⟨rfl, rfl, rfl, by decide +kernel, rfl, by decide +kernel, by decide +kernel⟩
def spRen (K : PySem.W.Frag) : Sp := fun vs H Q _ => ∃ (v : V) (n : Nat) (r : Rw) (nb : Addr) (g : Nat → Nat), vs = [v, .ref nb] ∧ RowH K H v r ∧ Rk n r ∧ NumH K H nb g (rargs r) ∧ ∀ p H', Same H H' → H' p = some (.tup (rowV (led g r))) → Q (.ref p) H'
def ledK (g : Nat → Nat) (d : Str × L2.Key) : L2.Key := if isR d.1 then .inl (g (nat d.2) : Nat) else d.2
theorem ok_ren {f : Addr} {fd : FuncData} (F : Fun K "renumbered_row" "renumbered_row" s_renumbered_row f fd) {pF : Addr} (FM : Fms K w mg pF) (n_zip : mg "zip" = none) : FnOk P w K mg base CX0 1 f fd ["row", "numbers"] (spRen K) := by
  refine F.ok sc_renumbered_row (fun vs H Q E h => ?_) (fun cdv A outer s H vs Q E hr h => ?_)
  · obtain ⟨_, _, _, _, _, rfl, _⟩ := h
    rfl
  · obtain ⟨_, n, r, nb, gg, rfl, ⟨a, rfl, hr0⟩, rk, hn, q⟩ := h
    obtain ⟨_, _, KF⟩ := FM.D
    obtain ⟨t, kt, ht⟩ := FM.at_ _ rk.wd
    have len := rk.ok.ln
    refine ⟨_, (Evl.pss_cut (ps_setLc (i := 2) (own := [("place", 3), ("one", 4)]) (g := gTup K 2 (gCons (gName 3) (gCons (gName 4) gNil))) (by rfl) sc_renumbered_row.nd rfl rfl (sw_true rfl rfl rfl (by decide +kernel)) (pi_zipA (by rfl) n_zip (pa_cons (pe_ix (r := rIxD K w) ix_kdict (pe_glob (v := .ref pF) (by rfl) FM.g rfl) (pe_ix ix_tup (pv 0) pe_int (fun _ _ => rfl)) (fun _ _ => rfl)) (pa_cons (pe_slice (r := rSlA K) sl_tupA (pv 0) (po_some pe_int) po_none) pa_nil))) (blkOk_by (N := ["row", "numbers", "words", "place", "one"]) (sc := defScope s_renumbered_row) (by decide +kernel)) (fun _ _ _ _ _ => pg_tup rfl (pgs_cons (pg_name (i := 3) sc_renumbered_row.nd rfl (Or.inl rfl)) (pgs_cons (pg_name (i := 4) sc_renumbered_row.nd rfl (Or.inl rfl)) pgs_nil))) (fun _ _ _ _ _ => pts_nil) (fun _ _ _ _ _ => pe_ifExp (pt_cmpR op_eq (pv 3) pe_str (nomark _)) (pe_or2 (pe_ix (r := rIxL K) ix_list (pv 1) (pv 4) (fun _ _ => rfl)) (pe_dget (hu_of hr) (pv 1) (pv 4) (fun _ _ => rfl))) (pv 4)))
    (pss_one (ps_ret (pe_tup (pa_cons (pe_ix ix_tup (pv 0) pe_int (fun _ _ => rfl)) (pa_star (pv 2) pa_nil)))))), ?_⟩
    refine ⟨fun σ H' => ∃ D, σ = [some (.ref a), some (.ref nb), some (.ref D), none, none] ∧ Same H H' ∧ H' D = some (.lst ((led gg r).as.map kV)), ?_, ?_⟩
    · refine ⟨_, rfl, _, _, _, _, rfl, rfl, hr0, at0, _, _, _, rfl, rfl, kt, ?_⟩
      refine rd_slc rfl hr0 fun p H1 hp s1 e1 => ?_
      refine ⟨t, p, _, _, rfl, .inr ⟨ht H1, SqT.of e1, fun D hD => ?_⟩⟩
      refine lc_mp wp_tup (ds := prt r) (fun _ => true) (fun _ y d => y = kV (ledK gg d)) ⟨ht _, SqT.of e1⟩ hD (by rw [prtV, List.length_map]) (fun _ _ _ _ _ h => h) (fun i T p d H2 ep ed s2 eT m => ?_) (fun H2 ys s2 e al => ?_)
      · rw [prtV] at ep
        obtain rfl := at_map ep ed
        have hl : (prt r).length ≤ 100000 := by rw [len_prt rk.ok]; exact Nat.le_trans (frm_len _) (by decide)
        refine ⟨T, _, rfl, SqT.of eT, rfl, _, _, rfl, _, _, rfl, rfl, rfl, ?_⟩
        obtain ⟨kd, x⟩ := d
        refine ⟨_, rfl, rfl, _, rfl, iteD (fun e => ?_) fun e => ?_⟩
        · injection e with e
          have kR : isR kd = true := k_row.mpr e
          obtain ⟨i', ei, hi⟩ := rk.ok.ft _ (at_mem ed) kR
          have ei : x = .inl (i' : Nat) := ei
          subst ei
          have ma : i' ∈ rargs r := mem_rargs (at_mem ed) kR
          have fin := fun y (hy : y = V.int (gg i' : Nat)) => mf_yes m hD (fun _ _ _ _ _ h => h) ed hl (Same.refl _) rfl (y := y) (by rw [hy]; unfold ledK; rw [if_pos kR]; rfl)
          rcases hn.same (s1.trans s2) with ⟨xs, hx, h⟩ | ⟨kvs, hx, h⟩
          · exact .inl ⟨_, rfl, _, rfl, nb, _, _, _, rfl, rfl, hx, at_nat (h _ ma), fin _ rfl⟩
          · exact .inr ⟨_, rfl, _, rfl, nb, _, rfl, (by have := DGet.k (k := .inl (i' : Nat)) hx; rw [h _ ma] at this; exact this), fin _ rfl⟩
        · have kR : ¬ isR kd = true := fun z => e (congrArg V.str (k_row.mp z))
          exact ⟨_, rfl, mf_yes m hD (fun _ _ _ _ _ h => h) ed hl (Same.refl _) rfl (by unfold ledK; rw [if_neg kR])⟩
      · rw [Rd.filter_all] at al
        obtain rfl := al.map_eq fun _ _ h => h
        refine ⟨D, rfl, s1.trans s2, e.trans ?_⟩
        show _ = some (HO.lst (((prt r).map (ledK gg)).map kV))
        rw [List.map_map]; rfl
    rintro σ H2 ⟨D, rfl, s2, e2⟩
    refine ⟨_, rfl, a, _, _, _, rfl, rfl, tupFix (Fix.of s2) hr0, at0, ?_⟩
    refine ⟨_, rfl, D, _, rfl, .inr (SqL.of e2), ?_, fun p hp => ?_⟩
    · have := frm_len r.w
      rw [List.append_nil, List.length_cons, List.length_map, sizeLine_eq]
      show ((prt r).map _).length + 1 ≤ _
      rw [List.length_map, len_prt rk.ok]
      omega
    have s3 := same_new hp (.tup (V.str r.w :: ((led gg r).as.map kV ++ [])))
    exact q p _ (s2.trans s3) (by rw [upd_same, List.append_nil]; rfl)
/-! ### needed_rows -/
theorem wk_rangeC {lo c : Int} {n : Nat} {a : Addr} : Sq.Wk (Itc lo c n) a (fun _ => True) ((List.range n).map fun k => V.int (lo + (k : Nat) * c)) where
  go := fun i H hi _ => by
    show i < n
    simpa using hi
  stop := fun H _ => by show n ≤ _; simp
  yld := fun i H v H' hi _ y => by
    obtain ⟨e, ev⟩ := (show H' = H ∧ v = .int (lo + (i : Nat) * c) from y)
    have hn : i < n := by simpa using hi
    exact ⟨e, by rw [ev, List.getElem?_map, List.getElem?_range hn] <;> rfl⟩
  keep := fun _ _ => trivial
abbrev s_needed_rows : Stmt := top 29
theorem sc_needed_rows : FnScope ["rows", "last", "needed", "number"] ["rows", "last"] (defScope s_needed_rows) := ⟨rfl, rfl, rfl, by decide +kernel, rfl, by decide +kernel, by decide +kernel⟩
def spNeed (K : PySem.W.Frag) : Sp := fun vs H Q _ => ∃ (rb : Addr) (its : List V) (u : List Rw) (last : Nat), vs = [.ref rb, .int (last : Nat)] ∧ SqL K H rb its ∧ All2 (RowH K H) its u ∧ RkL u ∧ last < u.length ∧ u.length ≤ 20 ∧ ∀ p H', Same H H' → H' p = some (.tup ((lotI ((ndl u (last + 1) [last]).map fun (k : Nat) => (k : Int))).map V.int)) → Q (.ref p) H'
theorem ok_need {f : Addr} {fd : FuncData} (F : Fun K "needed_rows" "needed_rows" s_needed_rows f fd) (C_as_lot : Cl P w K mg base "as_lot" ["values"] [] 1 (spLot K)) (C_words_of : Cl P w K mg base "words_of" ["row", "kind"] [] 1 (spWordsOf K)) (n_range : mg "range" = none) : FnOk P w K mg base CX0 2 f fd ["rows", "last"] (spNeed K) := by
  refine F.ok sc_needed_rows (fun vs H Q E h => ?_) (fun cdv A outer s H vs Q E hr h => ?_)
  · obtain ⟨_, _, _, _, rfl, _⟩ := h
    rfl
  · obtain ⟨rb, its, u, last, rfl, hb, hR, hk, hl, hu, q⟩ := h
    refine ⟨_, (pss_cons (ps_set (i := 2) sc_needed_rows.nd rfl (Or.inl rfl) (pe_lst (pa_cons (pv 1) pa_nil)))
    (Evl.pss_cut (ps_for PassesOwn.never rfl (pi_range3 (by rfl) n_range (pa_cons (pv 1) (pa_cons (pe_un un_neg pe_int) (pa_cons (pe_un un_neg pe_int) pa_nil)))) (pg_name (i := 3) sc_needed_rows.nd rfl (Or.inl rfl))
      (pss_one (ps_if (pt_cmpR op_in_seq (pv 3) (pv 2) rfl) (pss_one (ps_set (i := 2) sc_needed_rows.nd rfl (Or.inl rfl) (pe_op op_cat (pv 2) (pe_use C_words_of (hr.mono (by decide)) rfl (pa_cons (pe_ix ix_list (pv 0) (pv 3) (fun _ _ => rfl)) (pa_cons pe_str pa_nil)))))) pss_nil)))
    (pss_one (ps_ret (pe_use C_as_lot (hr.mono (by decide)) rfl (pa_cons (pv 2) pa_nil)))))), ?_⟩
    refine ⟨_, rfl, by show 1 ≤ sizeLine; decide, fun n0 hn => ?_⟩
    have s0 := same_new hn (.lst [.int (last : Nat)])
    have e0 : (upd H n0 (.lst [.int (last : Nat)])) n0 = some (.lst [.int (last : Nat)]) := upd_same
    generalize upd H n0 (.lst [.int (last : Nat)]) = H1 at s0 e0 ⊢
    refine ⟨fun σ H' => ∃ p o, σ = [some (.ref rb), some (.int (last : Nat)), some (.ref p), o] ∧ Same H H' ∧ H' p = some (.lst ((ndl u (last + 1) [last]).map fun (k : Nat) => V.int k)), ?_, ?_⟩
    · refine ⟨_, rfl, 1, rfl, 1, rfl, _, _, _, _, rfl, RgC.neg (by omega) (by omega) (by omega) (by omega), ?_⟩
      have en : ((last : Int) - -1).toNat = last + 1 := by omega
      rw [en]
      refine for_sq (a := rb) wk_rangeC (fun i σ H' => ∃ p o acc, σ = [some (.ref rb), some (.int (last : Nat)), some (.ref p), o] ∧ Same H H' ∧ H' p = some (.lst (acc.map fun (k : Nat) => V.int k)) ∧ acc.length ≤ 1 + 2 * i ∧ ndl u (last + 1 - i) acc = ndl u (last + 1) [last]) ⟨n0, none, [last], rfl, s0, e0, by simp, rfl⟩ (fun i σ H' p => trivial) ?_ ?_
      · rintro i σ H2 x ex ⟨p, o, acc, rfl, s2, e2, la, ea⟩
        have hi : i < last + 1 := by
          have := (List.getElem?_eq_some_iff.mp ex).1
          simpa using this
        rw [List.getElem?_map, List.getElem?_range hi] at ex
        have ex : V.int ((last : Int) + (i : Nat) * -1) = x := Option.some.inj ex
        obtain ⟨k, hk0⟩ : ∃ k, k + i = last := ⟨last - i, by omega⟩
        have ek : (last : Int) + (i : Nat) * -1 = (k : Nat) := by omega
        rw [ek] at ex
        subst ex
        have e1 : last + 1 - i = k + 1 := by omega
        have e3 : last + 1 - (i + 1) = k := by omega
        rw [e1] at ea
        have ea : ndl u k (if k ∈ acc then acc ++ rargs (u.getD k r0) else acc) = _ := ea
        have hku : k < u.length := by omega
        refine ⟨_, rfl, _, rfl, in_ints (ns := acc.map fun (k : Nat) => (k : Int)) (by rw [List.map_map]; exact SqX.lst e2) ⟨_, rfl, ?_⟩⟩
        have ed : decide ((k : Int) ∈ acc.map fun (k : Nat) => (k : Int)) = decide (k ∈ acc) := decide_eq_decide.mpr (by
          rw [List.mem_map]
          exact ⟨fun ⟨z, hz, e⟩ => by have : z = k := by omega
                                      exact this ▸ hz, fun h => ⟨k, h, rfl⟩⟩)
        rw [ed]
        by_cases c : k ∈ acc
        · rw [decide_eq_true c]
          rw [if_pos c] at ea
          obtain ⟨y, ey, hy⟩ := hR.getR (List.getElem?_eq_getElem hku)
          have eu : u.getD k r0 = u[k] := getD_lt hku
          have rk : Rk k u[k] := hk k _ (List.getElem?_eq_getElem hku)
          refine iteT ⟨_, rfl, _, rfl, _, rfl, rb, _, _, _, rfl, rfl, lstSame s2 hb, at_nat ey, _, k, u[k], "row", rfl, hy.same s2, rk, fun p3 H3 s3 e3' => ?_⟩
          rw [kws_V, row_int rk.ok] at e3'
          refine ⟨p, p3, _, _, rfl, rfl, s3 _ _ e2, e3', ?_, fun p4 hp4 => ?_⟩
          · have := rargs_len u[k]
            rw [List.length_map, List.length_map, List.length_map, sizeLine_eq]; omega
          have s4 := same_new hp4 (.lst ((acc.map fun (k : Nat) => V.int k) ++ ((rargs u[k]).map fun (a : Nat) => (a : Int)).map V.int))
          refine ⟨p4, _, acc ++ rargs u[k], rfl, (s2.trans s3).trans s4, ?_, ?_, ?_⟩
          · rw [upd_same, List.map_append, List.map_map]; rfl
          · have := rargs_len u[k]
            rw [List.length_append]; omega
          · rw [e3, ← ea, eu]
        · rw [decide_eq_false c]
          rw [if_neg c] at ea
          exact iteF ⟨p, _, acc, rfl, s2, e2, by omega, by rw [e3]; exact ea⟩
      · rintro σ H2 ⟨p, o, acc, rfl, s2, e2, la, ea⟩
        have : last + 1 - ((List.range (last + 1)).map fun k => V.int ((last : Int) + (k : Nat) * -1)).length = 0 := by simp
        rw [this] at ea
        have ea : acc = _ := ea
        exact ⟨p, o, rfl, s2, ea ▸ e2⟩
    rintro σ H2 ⟨p, o, rfl, s2, e2⟩
    refine ⟨_, rfl, p, rfl, .inr ⟨(ndl u (last + 1) [last]).map fun (k : Nat) => (k : Int), ?_, ?_, fun p2 H3 s3 e3 => q p2 H3 (s2.trans s3) e3⟩⟩
    · rw [List.map_map]; exact SqX.lst e2
    · rw [List.length_map]
      have := ndl_len u (last + 1) [last]
      simp at this
      omega
end
end K3

namespace K3
open PySem PySem.Spec PyProof.Rows L2 Hb St Sq Ow En Zp RZ Rd StX
local macro_rules | `(tactic| walk_at "wp") => `(tactic| try simp only [cxOf, tKGet, gName, rIxT, rIxL, tOr, tAnd, tB, tCB, tAsg, tTup, tLst, tSl, tNoPart, tPart, tDrop, tBM, tBM0, tPar, tAug, tIf, tYes, tCKw, tSeq, tRet, tRetN, tTest, tOp, tUn, tVar, tC, tCall, tCons, tNil, tIfS, tNext, tAndV, tOrV, tNot, tNotV, rEq, rNe, rI0, rI, L2.start, List.map_cons, List.map_nil, List.cons_append, List.nil_append, List.length_cons, List.length_nil, List.append_nil, Nat.reduceAdd, Nat.reduceSub, Nat.zero_add, List.replicate, List.getElem?_cons_zero, List.getElem?_cons_succ, List.set_cons_zero, List.set_cons_succ, Option.some.injEq, exists_eq_left', exists_eq_left, V.bl.injEq, V.str.injEq, V.int.injEq, V.ref.injEq, V.ty.injEq, List.cons.injEq, and_true, true_and, exists_and_left])
/-! ### what led keeps -/
theorem isR_fst {k : Str} : isR k = true ↔ k = "row" := decide_eq_true_iff
theorem led_Rk {n m : Nat} {g : Nat → Nat} {r : Rw} (h : Rk n r) (hg : ∀ a ∈ rargs r, g a < m) : Rk m (led g r) := by
  refine ⟨led_ok h.ok hg, h.wd, fun p hp => ?_, fun e => ?_⟩
  · rw [prt_led] at hp
    obtain ⟨q, hq, rfl⟩ := List.mem_map.mp hp
    have f := h.ft q hq
    by_cases k : isR q.1 = true
    · have e := isR_fst.mp k
      rw [if_pos k]
      refine ⟨f.kd, fun z => ?_, fun z => ?_, fun s z => ?_⟩
      · have z : q.1 = "count" := z
        rw [e] at z; exact absurd z (by decide)
      · have z : q.1 = "thing" ∨ q.1 = "bell" := z
        rw [e] at z; exact absurd z (by decide)
      · cases z
    · rw [if_neg k]
      exact ⟨f.kd, f.ct, f.nm, f.al⟩
  · have e : r.w = "above" := e
    have en : rargs r = [] := by
      obtain ⟨x, y, exy, _⟩ := h.ab e
      unfold rargs prt frm
      rw [e, exy, if_pos rfl]
      rfl
    rw [led_id h.ok (fun a ha => by rw [en] at ha; cases ha)]
    exact h.ab e
theorem Rk.any {n : Nat} {r : Rw} (h : Rk n r) {m : Nat} (k : Ok m r) : Rk m r := ⟨k, h.wd, h.ft, h.ab⟩
def WfL (rows : List Rw) : Prop := ∀ r ∈ rows, ∃ n, Rk n r
theorem RkL.wf {rows : List Rw} (h : RkL rows) : WfL rows := fun r hr => by
  obtain ⟨i, hi, e⟩ := List.mem_iff_getElem.mp hr
  exact ⟨i, h i r (by rw [List.getElem?_eq_getElem hi, e])⟩
theorem WfL.rk {rows : List Rw} (h : WfL rows) (o : OkL rows) : RkL rows := fun i r e => (h r (List.mem_of_getElem? e)).choose_spec.any (o i r e)
theorem RkL.left {a b : List Rw} (h : RkL (a ++ b)) : RkL a := fun i r e => h i r (by rw [List.getElem?_append_left (List.getElem?_eq_some_iff.mp e).1]; exact e)
theorem uniq_wf {rows : List Rw} : RkL rows → WfL (uniq rows).1 := by
  refine rev_ind (P := fun rows => RkL rows → WfL (uniq rows).1) (fun _ r hr => by cases hr) (fun l r ih h => ?_) rows
  have I := uniq_inv h.left.g
  have wl := ih h.left
  rw [uniq_snoc]
  unfold step
  dsimp only
  split
  · exact wl
  · intro s hs
    rcases List.mem_append.mp hs with hs | hs
    · exact wl s hs
    · obtain rfl := List.mem_singleton.mp hs
      have hr : Rk l.length r := h _ r (by rw [List.getElem?_append_right (Nat.le_refl _), Nat.sub_self]; rfl)
      exact ⟨_, led_Rk hr fun a ha => I.lt a (rargs_lt hr.ok ha)⟩
theorem u_rk {rows : List Rw} (h : RkL rows) : RkL (uniq rows).1 := (uniq_wf h).rk (uniq_inv h.g).g.ok
theorem kept_sub {u : List Rw} {last k : Nat} (h : k ∈ keptL u last) : k < u.length := by
  unfold keptL at h
  exact List.mem_range.mp (List.mem_filter.mp h).1
theorem tidy_wf {u : List Rw} (h : RkL u) (last : Nat) (hl : last < u.length) (nd : (trs u).Nodup) : WfL (tidyBy u last) := fun r hr => by
  unfold tidyBy at hr
  obtain ⟨k, hk, rfl⟩ := List.mem_map.mp hr
  have hku := kept_sub hk
  refine ⟨(keptL u last).length, led_Rk (n := k) (h k _ (by rw [List.getElem?_eq_getElem hku, getD_lt hku])) fun a ha => ?_⟩
  obtain ⟨p, q, e⟩ := List.append_of_mem hk
  have := (kept_child h.g nd hl e ha).1
  rw [e]
  have z := (idx_lt (q := k :: q) this)
  rw [z.1, List.length_append]
  omega
theorem tidy_rk {rows : List Rw} (h : RkL rows) (h0 : 0 < rows.length) : RkL (tidyR rows) := by
  have I := uniq_inv h.g
  have hl : lastN (uniq rows).2 < (uniq rows).1.length := by unfold lastN; rw [I.len]; exact I.lt _ (by omega)
  exact (tidy_wf (u_rk h) _ hl I.nd).rk (tidyR_is h.g h0).g.ok
/-! ### numbers of rows -/
def key (r : Rw) : List L2.Key := .inr r.w :: r.as
theorem key_V (r : Rw) : rowV r = (key r).map kV := rfl
theorem key_inj {p q : Rw} (h : key p = key q) : p = q := by
  obtain ⟨w, a⟩ := p
  obtain ⟨v, b⟩ := q
  injection h with h1 h2
  injection h1 with h1
  have h1 : w = v := h1
  have h2 : a = b := h2
  rw [h1, h2]
def kvsFrom : Nat → List Rw → List (List L2.Key × V)
  | _, [] => []
  | n, p :: r => (key p, .int (n : Nat)) :: kvsFrom (n + 1) r
theorem valV_pos {κ : Type} [DecidableEq κ] {k k' : κ} {v : V} {r : List (κ × V)} (h : k' = k) : valV ((k', v) :: r) k = some v := by
  unfold valV
  rw [List.find?_cons_of_pos (by simpa using h)]; rfl
theorem valV_neg {κ : Type} [DecidableEq κ] {k k' : κ} {v : V} {r : List (κ × V)} (h : ¬ k' = k) : valV ((k', v) :: r) k = valV r k := by
  unfold valV
  rw [List.find?_cons_of_neg (by simpa using h)]
theorem putK_new {κ : Type} [DecidableEq κ] {kvs : List (κ × V)} {k : κ} (v : V) (h : valV kvs k = none) : putK kvs k v = kvs ++ [(k, v)] := by
  unfold putK
  rw [if_neg]
  intro z
  unfold valV at h
  rw [Option.map_eq_none_iff, List.find?_eq_none] at h
  obtain ⟨x, hx, e⟩ := List.any_eq_true.mp z
  exact h x hx e
theorem kvs_snoc (p : Rw) : ∀ (Ps : List Rw) (n : Nat), kvsFrom n (Ps ++ [p]) = kvsFrom n Ps ++ [(key p, .int ((n + Ps.length : Nat) : Int))]
  | [], n => rfl
  | x :: r, n => by
    show (key x, V.int (n : Nat)) :: kvsFrom (n + 1) (r ++ [p]) = _
    rw [kvs_snoc p r (n + 1)]
    show _ = (key x, V.int (n : Nat)) :: (kvsFrom (n + 1) r ++ _)
    rw [show n + 1 + r.length = n + (x :: r).length by rw [List.length_cons]; omega]
theorem kvs_len : ∀ (Ps : List Rw) (n : Nat), (kvsFrom n Ps).length = Ps.length
  | [], _ => rfl
  | _ :: r, n => congrArg (· + 1) (kvs_len r (n + 1))
theorem kvs_none {p : Rw} : ∀ {Ps : List Rw} {n : Nat}, p ∉ Ps → valV (kvsFrom n Ps) (key p) = none
  | [], _, _ => rfl
  | x :: r, n, h => by
    show valV ((key x, V.int (n : Nat)) :: kvsFrom (n + 1) r) (key p) = none
    rw [valV_neg fun z => h (by rw [key_inj z]; exact List.mem_cons_self)]
    exact kvs_none fun z => h (List.mem_cons_of_mem _ z)
theorem kvs_some {p : Rw} : ∀ {Ps : List Rw} {n : Nat}, p ∈ Ps → valV (kvsFrom n Ps) (key p) = some (.int ((n + Ps.idxOf p : Nat) : Int))
  | [], _, h => by cases h
  | x :: r, n, h => by
    show valV ((key x, V.int (n : Nat)) :: kvsFrom (n + 1) r) (key p) = _
    by_cases e : x = p
    · rw [valV_pos (by rw [e]), e, List.idxOf_cons_self]; rfl
    · rw [valV_neg fun z => e (key_inj z), kvs_some ((List.mem_cons.mp h).resolve_left fun z => e z.symm), show (x :: r).idxOf p = r.idxOf p + 1 by rw [List.idxOf_cons, show (x == p) = false from beq_eq_false_iff_ne.mpr e]; rfl]
      rw [show n + 1 + r.idxOf p = n + (r.idxOf p + 1) by omega]
theorem _root_.Sq.All2.of_mapR {α β γ : Type} {R : α → γ → Prop} (f : β → γ) : ∀ {as : List α} {bs : List β}, All2 (fun a b => R a (f b)) as bs → All2 R as (bs.map f)
  | _, _, .nil => .nil
  | _, _, .cons h t => .cons h (of_mapR f t)
def kvP : Nat → List Nat → List (L2.Key × V)
  | _, [] => []
  | n, p :: r => (.inl (p : Nat), .int (n : Nat)) :: kvP (n + 1) r
theorem kvP_snoc (p : Nat) : ∀ (Ps : List Nat) (n : Nat), kvP n (Ps ++ [p]) = kvP n Ps ++ [(.inl (p : Nat), .int ((n + Ps.length : Nat) : Int))]
  | [], n => rfl
  | x :: r, n => by
    show ((.inl (x : Nat) : L2.Key), V.int (n : Nat)) :: kvP (n + 1) (r ++ [p]) = _
    rw [kvP_snoc p r (n + 1)]
    show _ = ((.inl (x : Nat) : L2.Key), V.int (n : Nat)) :: (kvP (n + 1) r ++ _)
    rw [show n + 1 + r.length = n + (x :: r).length by rw [List.length_cons]; omega]
theorem kvP_len : ∀ (Ps : List Nat) (n : Nat), (kvP n Ps).length = Ps.length
  | [], _ => rfl
  | _ :: r, n => congrArg (· + 1) (kvP_len r (n + 1))
theorem inl_inj {p q : Nat} (h : (.inl (p : Nat) : L2.Key) = .inl (q : Nat)) : p = q := by
  injection h with h; omega
theorem kvP_none {p : Nat} : ∀ {Ps : List Nat} {n : Nat}, p ∉ Ps → valV (kvP n Ps) (.inl (p : Nat)) = none
  | [], _, _ => rfl
  | x :: r, n, h => by
    show valV (((.inl (x : Nat) : L2.Key), V.int (n : Nat)) :: kvP (n + 1) r) _ = none
    rw [valV_neg fun z => h (by rw [inl_inj z]; exact List.mem_cons_self)]
    exact kvP_none fun z => h (List.mem_cons_of_mem _ z)
theorem kvP_some {p : Nat} : ∀ {Ps : List Nat} {n : Nat}, p ∈ Ps → valV (kvP n Ps) (.inl (p : Nat)) = some (.int ((n + Ps.idxOf p : Nat) : Int))
  | [], _, h => by cases h
  | x :: r, n, h => by
    show valV (((.inl (x : Nat) : L2.Key), V.int (n : Nat)) :: kvP (n + 1) r) _ = _
    by_cases e : x = p
    · rw [valV_pos (by rw [e]), e, List.idxOf_cons_self]; rfl
    · rw [valV_neg fun z => e (inl_inj z), kvP_some ((List.mem_cons.mp h).resolve_left fun z => e z.symm), show (x :: r).idxOf p = r.idxOf p + 1 by rw [List.idxOf_cons, show (x == p) = false from beq_eq_false_iff_ne.mpr e]; rfl]
      rw [show n + 1 + r.idxOf p = n + (r.idxOf p + 1) by omega]
theorem kept_len (u : List Rw) (last : Nat) : (keptL u last).length ≤ u.length := by
  unfold keptL
  exact Nat.le_trans (List.length_filter_le _ _) (by rw [List.length_range]; exact Nat.le_refl _)
theorem ins_same {H : Hp} {C x dx : Addr} (hx : H x = none) (hdx : H dx = none) : Same H (upd (upd H dx (.own x)) x (.ins C dx [])) := fun b o e => by
  rw [upd_ne (ne_of_none e hx), upd_ne (ne_of_none e hdx)]; exact e
/-- a dict comprehension over enumerate: kv i behind the first i items -/
theorem dc_en2 {J : It} {a : Addr} {S : Hp → Prop} {xs : List V} (W : Sq.En J a S xs) (kv : Nat → List (L2.Key × V)) {g : TG} {tt : TT} {tk tv : TE} {vs : List Nat} {σ : L2.St} {H1 : Hp} {D : Addr} {Qd : Hp → Prop} (hS : ∀ {H}, Same H1 H → S H) (hD : H1 D = none)
    (h0 : kv 0 = [])
    (hs : ∀ i T x H, xs[i]? = some x → Same H1 H → H T = some (.tup [.int (i : Nat), x]) → H D = some (.dK (kv i)) → g (.ref T) (wipe σ vs) H fun σ2 H2 => wipe σ2 vs = wipe σ vs ∧ tt σ2 H2 fun b H3 =>
      if b = true then tk σ2 H3 fun y H4 => tv σ2 H4 fun z H5 => ∃ kvs k, y = kV k ∧ H5 D = some (.dK kvs) ∧ kvs.length < sizeLine ∧ (Same H1 (upd H5 D (.dK (putK kvs k z))) ∧ (upd H5 D (.dK (putK kvs k z))) D = some (.dK (kv (i + 1)))) else (Same H1 H3 ∧ H3 D = some (.dK (kv (i + 1)))))
    (hd : ∀ H, Same H1 H → H D = some (.dK (kv xs.length)) → Qd H) :
    ∃ W : Nat → Nat → Hp → Prop, (∃ m, W 0 m (upd H1 D (.dK []))) ∧ ∀ i m H, W i m H →
      (J.stop i H ∧ Qd H) ∨ (J.go i H ∧ ∃ Nx : Hp → Prop, (∀ H', Nx H' → ∃ m', m' < m ∧ W (i + 1) m' H') ∧ ∀ v H', J.yld i H v H' → g v (wipe σ vs) H' fun σ2 H2 => wipe σ2 vs = wipe σ vs ∧ tt σ2 H2 fun b H3 =>
        if b = true then tk σ2 H3 fun y H4 => tv σ2 H4 fun z H5 => ∃ kvs k, y = kV k ∧ H5 D = some (.dK kvs) ∧ kvs.length < sizeLine ∧ Nx (upd H5 D (.dK (putK kvs k z))) else Nx H3) := by
  refine ⟨fun i m H => m + i = xs.length ∧ Same H1 H ∧ H D = some (.dK (kv i)), ⟨xs.length, rfl, fun b o e => by rw [upd_ne (ne_of_none e hD)]; exact e, by rw [upd_same, h0]⟩, fun i m H ⟨e, s, eD⟩ => ?_⟩
  cases m with
  | zero =>
    obtain rfl : i = xs.length := by omega
    exact .inl ⟨W.stop H (hS s), hd H s eD⟩
  | succ m =>
    have hi : i < xs.length := by omega
    refine .inr ⟨W.go i H hi (hS s), fun H' => Same H1 H' ∧ H' D = some (.dK (kv (i + 1))), fun H' p' => ⟨m, Nat.lt_succ_self m, by omega, p'⟩, fun v H' y => ?_⟩
    obtain ⟨T, x, rfl, hT, rfl, ex⟩ := W.yld i H v H' (hS s) y
    have s2 := same_new hT (.tup [.int (i : Nat), x])
    exact hs i T x _ ex (s.trans s2) upd_same (s2 _ _ eD)
/-- a row that was made -/
def RowT (H : Hp) (v : V) (r : Rw) : Prop := ∃ b, v = .ref b ∧ H b = some (.tup (rowV r))
theorem RowT.fix {H H' : Hp} {v : V} {r : Rw} (f : Fix H H') (h : RowT H v r) : RowT H' v r := let ⟨b, e, q⟩ := h; ⟨b, e, f _ _ q (by rintro (⟨_, z⟩ | ⟨_, z⟩) <;> cases z)⟩
theorem RowT.row {K : PySem.W.Frag} {H : Hp} {v : V} {r : Rw} (h : RowT H v r) : RowH K H v r := let ⟨b, e, q⟩ := h; ⟨b, e, SqT.of q⟩
section
variable {P : Program} {w : World} {K : PySem.W.Frag} {mg : Str → Option Value} {base : Heap}
/-! ### tidy_stair -/
abbrev s_tidy_stair : Stmt := top 27
theorem sc_tidy_stair : FnScope ["stair", "rows", "numbers", "known", "row", "led", "kept", "places", "at", "number"] ["stair"] (defScope s_tidy_stair) := ⟨rfl, rfl, rfl, by decide +kernel, rfl, by decide +kernel, by decide +kernel⟩
def spTidy (K : PySem.W.Frag) (C : Addr) : Sp := fun vs H Q _ => ∃ (v : V) (rows : List Rw), vs = [v] ∧ StA K C H v rows ∧ RkL rows ∧ 0 < rows.length ∧ rows.length ≤ 20 ∧ ∀ x H', Same H H' → StA K C H' x (tidyR rows) → Q x H'
structure TI_ (H H' : Hp) (L N D : Addr) (rows : List Rw) : Prop where
  same : Same H H'
  l : ∃ ys, H' L = some (.lst ys) ∧ All2 (RowT H') ys (uniq rows).1
  n : H' N = some (.lst ((uniq rows).2.map fun (n : Nat) => V.int n))
  d : H' D = some (.dT (kvsFrom 0 (uniq rows).1))
theorem TI_.to {H H1 H2 : Hp} {L N D : Addr} {rows : List Rw} (h : TI_ H H1 L N D rows) (s : Same H1 H2) : TI_ H H2 L N D rows := by
  obtain ⟨ys, e, al⟩ := h.l
  exact ⟨h.same.trans s, ⟨ys, s _ _ e, al.imp fun _ _ q => q.fix (Fix.of s)⟩, s _ _ h.n, s _ _ h.d⟩
theorem ok_tidy {f : Addr} {fd : FuncData} (F : Fun K "tidy_stair" "tidy_stair" s_tidy_stair f fd) (TC : Txt K mg C_Stair) (C_needed_rows : Cl P w K mg base "needed_rows" ["rows", "last"] [] 2 (spNeed K)) (C_renumbered_row : Cl P w K mg base "renumbered_row" ["row", "numbers"] [] 1 (spRen K)) (M_Stair : Cm P w K mg base "Stair" C_Stair ["self", "rows"] 5 (spInit K C_Stair)) (n_enumerate : mg "enumerate" = none) (n_len : mg "len" = none) : FnOk P w K mg base CX0 7 f fd ["stair"] (spTidy K C_Stair) := by
  refine F.ok sc_tidy_stair (fun vs H Q E h => ?_) (fun cdv A outer s H vs Q E hr h => ?_)
  · obtain ⟨_, _, rfl, _⟩ := h
    rfl
  · obtain ⟨_, rows, rfl, ⟨x, dx, ra, its, rfl, ex, ha, hR⟩, hk, h0, hl, q⟩ := h
    refine ⟨_, (pss_cons (ps_set (i := 1) sc_tidy_stair.nd rfl (Or.inr rfl) (pe_lst pa_nil))
    (pss_cons (ps_set (i := 2) sc_tidy_stair.nd rfl (Or.inl rfl) (pe_lst pa_nil))
    (pss_cons (ps_set (i := 3) sc_tidy_stair.nd rfl (Or.inl rfl) (pe_dnewT))
    (Evl.pss_cut (ps_for PassesOwn.never rfl (pi_seq (pe_fld (pv 0) rfl)) (pg_name (i := 4) sc_tidy_stair.nd rfl (Or.inl rfl))
      (pss_cons (ps_set (i := 5) sc_tidy_stair.nd rfl (Or.inl rfl) (pe_use C_renumbered_row (hr.mono (by decide)) rfl (pa_cons (pv 4) (pa_cons (pv 2) pa_nil))))
    (Evl.pss_cut (ps_if (pt_cmp (pc_dnotin (hu_of hr) (pv 5) (pv 3))) (pss_cons (ps_dput (hu_of hr) (pv 3) (pv 5) (pe_callB call_len_seq (by rfl) n_len PySem.boot_len (pa_cons (pv 1) pa_nil)) rfl)
    (pss_one (ps_expr (pe_bm PySem.F.plainAttrs_list PySem.F.slot_list_append PySem.F.type_list_append mt_append (pv 1) (pa_cons (pv 5) pa_nil))))) pss_nil)
    (pss_one (ps_expr (pe_bm PySem.F.plainAttrs_list PySem.F.slot_list_append PySem.F.type_list_append mt_append (pv 2) (pa_cons (pe_dget (hu_of hr) (pv 3) (pv 5) (fun _ _ => rfl)) pa_nil)))))))
    (pss_cons (ps_set (i := 6) sc_tidy_stair.nd rfl (Or.inl rfl) (pe_use C_needed_rows (hr.mono (by decide)) rfl (pa_cons (pv 1) (pa_cons (pe_ix ix_list (pv 2) (pe_un un_neg pe_int) (fun _ _ => rfl)) pa_nil))))
    (pss_cons (ps_set (i := 7) sc_tidy_stair.nd rfl (Or.inr rfl) (pe_dc (own := [("at", 8), ("number", 9)]) (g := gTup K 2 (gCons (gName 8) (gCons (gName 9) gNil))) rfl sc_tidy_stair.nd (pi_or (pi_enum (by rfl) n_enumerate (pa_cons (pv 6) pa_nil)) (pi_enumT (by rfl) n_enumerate (pa_cons (pv 6) pa_nil))) (blkOk_by (N := ["stair", "rows", "numbers", "known", "row", "led", "kept", "places", "at", "number"]) (sc := defScope s_tidy_stair) (by decide +kernel)) (fun _ _ _ _ _ => pg_tup rfl (pgs_cons (pg_name (i := 8) sc_tidy_stair.nd rfl (Or.inl rfl)) (pgs_cons (pg_name (i := 9) sc_tidy_stair.nd rfl (Or.inl rfl)) pgs_nil))) (fun _ _ _ _ _ => pts_nil) (fun _ _ _ _ _ => pv 9) (fun _ _ _ _ _ => pv 8)))
    (pss_one (ps_ret (pe_new M_Stair (hr.mono (by decide)) rfl (pa_cons (pe_lc (own := [("number", 9)]) (g := gName 9) rfl sc_tidy_stair.nd (pi_seq (pv 6)) (blkOk_by (N := ["stair", "rows", "numbers", "known", "row", "led", "kept", "places", "at", "number"]) (sc := defScope s_tidy_stair) (by decide +kernel)) (fun _ _ _ _ _ => pg_name (i := 9) sc_tidy_stair.nd rfl (Or.inl rfl)) (fun _ _ _ _ _ => pts_nil) (fun _ _ _ _ _ => pe_use C_renumbered_row (hr.mono (by decide)) rfl (pa_cons (pe_ix (r := rIxL K) ix_list (pv 1) (pv 9) (fun _ _ => rfl)) (pa_cons (pv 7) pa_nil)))) pa_nil)))))))))), ?_⟩
    refine ⟨by show 0 ≤ sizeLine; decide, fun L hL => ?_⟩
    have s1 := same_new hL (.lst [])
    have eL : (upd H L (.lst [])) L = some (.lst []) := upd_same
    generalize upd H L (.lst []) = H1 at s1 eL ⊢
    refine ⟨by show 0 ≤ sizeLine; decide, fun N hN => ?_⟩
    have s2 := same_new hN (.lst [])
    have eN : (upd H1 N (.lst [])) N = some (.lst []) := upd_same
    have nLN : L ≠ N := ne_of_none eL hN
    replace eL := s2 _ _ eL
    generalize upd H1 N (.lst []) = H2 at s2 eL eN ⊢
    refine fun D hD => ?_
    have s3 := same_new hD (.dT [])
    have eD : (upd H2 D (.dT [])) D = some (.dT []) := upd_same
    replace eL := s3 _ _ eL
    replace eN := s3 _ _ eN
    generalize upd H2 D (.dT []) = H3 at s3 eL eN eD ⊢
    have s13 := (s1.trans s2).trans s3
    refine ⟨fun σ H' => ∃ o4 o5, σ = [some (.ref x), some (.ref L), some (.ref N), some (.ref D), o4, o5, none, none, none, none] ∧ TI_ H H' L N D rows, ?_, ?_⟩
    · refine ⟨_, rfl, x, _, dx, _, _, rfl, s13 _ _ ex, TC.cl, TC.nR, fl_rows _, ra, its, rfl, .inr (SqT.of (s13 _ _ ha)), fun J S Wk k0 => ?_⟩
      refine for_sq Wk (fun i σ H' => ∃ o4 o5, σ = [some (.ref x), some (.ref L), some (.ref N), some (.ref D), o4, o5, none, none, none, none] ∧ TI_ H H' L N D (rows.take i)) ⟨none, none, rfl, s13, ⟨[], eL, .nil⟩, eN, eD⟩ (fun i σ H' p => ?_) ?_ ?_
      · obtain ⟨_, _, _, ti⟩ := p
        exact Wk.keep (fun o e => by rw [s13 _ _ ha] at e; cases e; exact ti.same _ _ ha) k0
      · rintro i σ H4 y ey ⟨o4, o5, rfl, ti⟩
        obtain ⟨d, ed, hd⟩ := hR.get ey
        have rk := hk i d ed
        have il : i < rows.length := (List.getElem?_eq_some_iff.mp ed).1
        have tl : (rows.take i).length = i := by rw [List.length_take]; omega
        have rki : RkL (rows.take i) := RkL.left (b := rows.drop i) (by rw [List.take_append_drop]; exact hk)
        have I := uniq_inv rki.g
        have us : uniq (rows.take (i + 1)) = step (uniq (rows.take i)) d := by rw [take_snoc ed, uniq_snoc]
        have urk := u_rk rki
        obtain ⟨same4, ⟨ys, ey4, al4⟩, en4, ed4⟩ := ti
        generalize uniq (rows.take i) = un at us I urk al4 en4 ed4
        obtain ⟨u, nums⟩ := un
        have us : uniq (rows.take (i + 1)) = (if led (fun a => nums.getD a 0) d ∈ u then (u, nums ++ [u.idxOf (led (fun a => nums.getD a 0) d)]) else (u ++ [led (fun a => nums.getD a 0) d], nums ++ [u.length])) := us
        have I : UI (rows.take i) u nums := I
        have nl : nums.length = i := by rw [I.len, tl]
        have ul : u.length ≤ 20 := Nat.le_trans I.le (by omega)
        have al4 : All2 (RowT H4) ys u := al4
        have en4 : H4 N = some (.lst (nums.map fun (n : Nat) => V.int n)) := en4
        have ed4 : H4 D = some (.dT (kvsFrom 0 u)) := ed4
        refine ⟨_, rfl, _, rfl, y, i, d, N, fun a => nums.getD a 0, rfl, hd.same same4, rk, .inl ⟨_, SqL.of en4, fun a hal => ?_⟩, fun p H5 s5 e5 => ?_⟩
        · have := rargs_lt rk.ok hal
          show _ = some (V.int (nums.getD a 0 : Nat))
          rw [List.getElem?_map, List.getElem?_eq_getElem (show a < nums.length by omega), getD_lt (show a < nums.length by omega)]; rfl
        generalize led (fun a => nums.getD a 0) d = wr at us e5
        have ed5 := s5 _ _ ed4
        have en5 := s5 _ _ en4
        have ey5 := s5 _ _ ey4
        have al5 : All2 (RowT H5) ys u := al4.imp fun _ _ h => h.fix (Fix.of s5)
        have same5 := same4.trans s5
        have nLD : L ≠ D := ne_of ey5 ed5 (by intro z; cases z)
        have nND : N ≠ D := ne_of en5 ed5 (by intro z; cases z)
        refine ⟨fun σ H' => σ = [some (.ref x), some (.ref L), some (.ref N), some (.ref D), some y, some (.ref p), none, none, none, none] ∧ Same H H' ∧ H' p = some (.tup (rowV wr)) ∧ (∃ ys, H' L = some (.lst ys) ∧ All2 (RowT H') ys (if wr ∈ u then u else u ++ [wr])) ∧ H' N = some (.lst (nums.map fun (n : Nat) => V.int n)) ∧ H' D = some (.dT (kvsFrom 0 (if wr ∈ u then u else u ++ [wr]))), ?_, ?_⟩
        · refine ⟨_, rfl, _, rfl, D, _, rfl, DGet.t (k := key wr) ed5 e5, _, rfl, ?_⟩
          by_cases c : wr ∈ u
          · rw [kvs_some c, if_pos c]
            exact iteF ⟨rfl, same5, e5, ⟨ys, ey5, al5⟩, en5, ed5⟩
          · rw [kvs_none c, if_neg c]
            refine iteT ⟨_, rfl, L, ys, rfl, .inl (SqL.of ey5), _, rfl, _, rfl, D, _, rfl, DPut.t (k := key wr) ed5 e5 (by rw [kvs_len, sizeLine_eq]; omega), ?_⟩
            have f6 : Fix H5 (upd H5 D (.dT (putK (kvsFrom 0 u) (key wr) (.int (ys.length : Nat))))) := Fix.dT ed5
            have k6 : Kept D H5 (upd H5 D (.dT (putK (kvsFrom 0 u) (key wr) (.int (ys.length : Nat))))) := kept_upd
            have d6 : upd H5 D (.dT (putK (kvsFrom 0 u) (key wr) (.int (ys.length : Nat)))) D = some (.dT (kvsFrom 0 (u ++ [wr]))) := by
              rw [upd_same, putK_new _ (kvs_none c), kvs_snoc, al5.len, Nat.zero_add]
            generalize upd H5 D (.dT (putK (kvsFrom 0 u) (key wr) (.int (ys.length : Nat)))) = H6 at f6 k6 d6 ⊢
            have y6 := k6 _ _ ey5 nLD
            have n6 := k6 _ _ en5 nND
            have p6 : H6 p = some (.tup (rowV wr)) := f6 _ _ e5 (by rintro (⟨_, z⟩ | ⟨_, z⟩) <;> cases z)
            refine ⟨_, rfl, .inl ⟨rfl, _, SqL.of y6⟩, _, rfl, L, _, _, rfl, rfl, y6, by rw [al5.len, sizeLine_eq]; omega, ?_⟩
            have f7 : Fix H6 (upd H6 L (.lst (ys ++ [.ref p]))) := Fix.lst y6
            have hnd : ∀ {b o}, H b = some o → b ≠ L ∧ b ≠ D := fun e => ⟨ne_of_none e hL, ne_of_none (s2 _ _ (s1 _ _ e)) hD⟩
            refine ⟨rfl, fun b o eb => ?_, ?_, ⟨_, upd_same, ?_⟩, ?_, ?_⟩
            · rw [upd_ne (hnd eb).1]
              exact k6 _ _ (same5 _ _ eb) (hnd eb).2
            · exact f7 _ _ p6 (by rintro (⟨_, z⟩ | ⟨_, z⟩) <;> cases z)
            · exact (al5.imp fun _ _ h => h.fix (f6.trans f7)).app (.cons (RowT.fix f7 ⟨p, rfl, p6⟩) .nil)
            · rw [upd_ne nLN.symm]; exact n6
            · rw [upd_ne nLD.symm]; exact d6
        rintro σ H6 ⟨rfl, same6, p6, ⟨zs, z6, al6⟩, n6, d6⟩
        have hv : valV (kvsFrom 0 (if wr ∈ u then u else u ++ [wr])) (key wr) = some (.int ((if wr ∈ u then u.idxOf wr else u.length : Nat) : Int)) := by
          by_cases c : wr ∈ u
          · rw [if_pos c, if_pos c, kvs_some c, Nat.zero_add]
          · rw [if_neg c, if_neg c, kvs_some (by simp), Nat.zero_add, List.idxOf_append, if_neg c]
            simp
        refine ⟨_, rfl, .inl ⟨rfl, _, SqL.of n6⟩, _, rfl, _, rfl, D, _, rfl, hv ▸ DGet.t (k := key wr) d6 p6, N, _, _, rfl, rfl, n6, by rw [List.length_map, sizeLine_eq]; omega, ?_⟩
        have f7 : Fix H6 (upd H6 N (.lst ((nums.map fun (n : Nat) => V.int n) ++ [.int ((if wr ∈ u then u.idxOf wr else u.length : Nat) : Int)]))) := Fix.lst n6
        have us' : uniq (rows.take (i + 1)) = (if wr ∈ u then u else u ++ [wr], nums ++ [if wr ∈ u then u.idxOf wr else u.length]) := by
          rw [us]
          by_cases c : wr ∈ u
          · rw [if_pos c, if_pos c, if_pos c]
          · rw [if_neg c, if_neg c, if_neg c]
        refine ⟨_, _, rfl, fun b o eb => ?_, ⟨zs, ?_, ?_⟩, ?_, ?_⟩
        · rw [upd_ne (ne_of_none (s1 _ _ eb) hN)]; exact same6 _ _ eb
        · rw [upd_ne nLN]; exact z6
        · rw [us']; exact al6.imp fun _ _ h => h.fix f7
        · rw [us', upd_same, List.map_append]; rfl
        · rw [us', upd_ne nND.symm]; exact d6
      · rintro σ H4 ⟨o4, o5, rfl, ti⟩
        rw [List.take_of_length_le (by rw [hR.len]; exact Nat.le_refl _)] at ti
        exact ⟨o4, o5, rfl, ti⟩
    rintro σ H4 ⟨o4, o5, rfl, ti⟩
    have I := uniq_inv hk.g
    have urk := u_rk hk
    have trk := tidy_rk hk h0
    have tpos := (tidyR_is hk.g h0).pos
    have tle := (tidyR_is hk.g h0).le
    unfold tidyR at q trk tpos tle
    obtain ⟨same4, ⟨ys, ey4, al4⟩, en4, ed4⟩ := ti
    generalize uniq rows = un at I urk al4 en4 ed4 q trk tpos tle
    obtain ⟨u, nums⟩ := un
    have I : UI rows u nums := I
    have nl := I.len
    have hlast : lastN nums < u.length := by unfold lastN; rw [I.len]; exact I.lt _ (by omega)
    have en4 : H4 N = some (.lst ((nums.take (nums.length - 1)).map (fun (n : Nat) => V.int n) ++ [V.int (lastN nums : Nat)])) := by
      have h1 : nums.length - 1 < nums.length := by omega
      have z := take_snoc (l := nums) (i := nums.length - 1) (d := nums[nums.length - 1]) (List.getElem?_eq_getElem h1)
      rw [List.take_of_length_le (by omega)] at z
      have z2 : nums = nums.take (nums.length - 1) ++ [lastN nums] := by unfold lastN; rw [getD_lt h1]; exact z
      exact en4.trans (congrArg (fun l => some (HO.lst l)) ((congrArg (List.map fun (n : Nat) => V.int n) z2).trans (by rw [List.map_append]; rfl)))
    have q : ∀ x H', Same H H' → StA K C_Stair H' x (tidyBy u (lastN nums)) → Q x H' := q
    have trk : RkL (tidyBy u (lastN nums)) := trk
    have tpos : 0 < (tidyBy u (lastN nums)).length := tpos
    have tle : (tidyBy u (lastN nums)).length ≤ rows.length := tle
    have urk : RkL u := urk
    have al4 : All2 (RowT H4) ys u := al4
    generalize lastN nums = last at hlast en4 q trk tpos tle
    have ul : u.length ≤ 20 := Nat.le_trans I.le hl
    refine ⟨_, rfl, _, rfl, 1, rfl, N, _, _, _, rfl, rfl, SqL.of en4, at_last, L, ys, u, last, rfl, SqL.of ey4, al4.imp fun _ _ h => h.row, urk, hlast, ul, fun p H5 s5 e5 => ?_⟩
    rw [← kept_int I.g I.nd hlast] at e5
    have same5 := same4.trans s5
    have kl := kept_len u last
    have kn : (keptL u last).Nodup := (kept_asc u last).imp fun h => by omega
    have kx : ((keptL u last).map fun (k : Nat) => (k : Int)).map V.int = (keptL u last).map fun (k : Nat) => V.int k := by rw [List.map_map]; rfl
    rw [kx] at e5
    have ht : SqT K H5 p ((keptL u last).map fun (k : Nat) => V.int k) := SqT.of e5
    refine .inr ⟨_, rfl, p, rfl, ⟨_, ht⟩, fun D2 hD2 => ?_⟩
    refine dc_en2 en_tup (fun i => kvP 0 ((keptL u last).take i)) (fun s => tupFix (Fix.of s) ht) hD2 rfl (fun i T y H6 ey s6 eT eD => ?_) (fun H6 s6 e6 => ?_)
    · have ilt : i < (keptL u last).length := by
        have := (List.getElem?_eq_some_iff.mp ey).1
        rwa [List.length_map] at this
      have ek : (keptL u last)[i]? = some (keptL u last)[i] := List.getElem?_eq_getElem ilt
      obtain rfl := at_map ey ek
      have nk : (keptL u last)[i] ∉ (keptL u last).take i := fun hm => by
        obtain ⟨j, hj, e⟩ := List.mem_iff_getElem.mp hm
        rw [List.length_take] at hj
        rw [List.getElem_take] at e
        have := (List.getElem_inj kn).mp e
        omega
      refine ⟨T, _, rfl, SqT.of eT, rfl, _, _, rfl, _, _, rfl, rfl, rfl, ?_⟩
      refine ⟨_, rfl, _, rfl, _, .inl ((keptL u last)[i] : Nat), rfl, eD, by rw [kvP_len, List.length_take, sizeLine_eq]; omega, fun b o e => ?_, ?_⟩
      · rw [upd_ne (ne_of_none e hD2)]; exact s6 _ _ e
      · rw [upd_same, putK_new _ (kvP_none nk), take_snoc ek, kvP_snoc, List.length_take, Nat.zero_add, Nat.min_eq_left (by omega)]
    rw [List.length_map, List.take_of_length_le (Nat.le_refl _)] at e6
    have ht6 := tupFix (Fix.of s6) ht
    have f56 := Fix.of (s5.trans s6)
    have same6 := same5.trans s6
    have ey6 := s6 _ _ (s5 _ _ ey4)
    have al6 : All2 (RowT H6) ys u := al4.imp fun _ _ h => h.fix f56
    refine ⟨_, rfl, p, _, rfl, .inr ht6, fun J S W k D hD => ?_⟩
    refine lc_mf (ds := keptL u last) W (fun _ => true) (fun H y k => RowT H y (led (fun a => (keptL u last).idxOf a) (u.getD k r0))) k hD (by rw [List.length_map]) (fun i z k H7 ez ed s7 m => ?_) (fun H7 zs s7 e7 al7 => ?_)
    · obtain rfl := at_map ez ed
      have hku := kept_sub (at_mem ed)
      have eu : u.getD k r0 = u[k] := getD_lt hku
      have rk : Rk k u[k] := urk k _ (List.getElem?_eq_getElem hku)
      obtain ⟨y, ey, hy⟩ := al6.getR (List.getElem?_eq_getElem hku)
      obtain ⟨pp, qq, ekk⟩ := List.append_of_mem (at_mem ed)
      refine ⟨rfl, _, rfl, _, rfl, L, _, _, _, rfl, rfl, SqL.of (s7 _ _ ey6), at_nat ey, _, rfl, y, k, u[k], D2, fun a => (keptL u last).idxOf a, rfl, (hy.fix (Fix.of s7)).row, rk, .inr ⟨_, s7 _ _ e6, fun a hal => ?_⟩, fun p8 H8 s8 e8 => ?_⟩
      · have ma : a ∈ keptL u last := by
          have := (kept_child I.g I.nd hlast ekk (by rw [eu]; exact hal)).1
          rw [ekk]; exact List.mem_append_left _ this
        rw [kvP_some ma, Nat.zero_add]
      · exact mf_yes m hD (fun _ _ _ _ f h => h.fix f) ed (by omega) s8 rfl ⟨p8, rfl, by rw [eu]; exact e8⟩
    rw [Rd.filter_all] at al7
    refine fun nx nd hnx hnd ne => ?_
    have s8 := ins_same (C := C_Stair) hnx hnd
    have al8 : All2 (RowT (upd (upd H7 nd (.own nx)) nx (.ins C_Stair nd []))) zs (tidyBy u last) := by
      unfold tidyBy
      exact Sq.All2.of_mapR _ (al7.imp fun _ _ h => h.fix (Fix.of s8))
    refine ⟨nx, nd, D, zs, tidyBy u last, rfl, upd_same, SqL.of (s8 _ _ e7), al8.imp fun _ _ h => h.row, tpos, by omega, trk, fun H9 kw sta => ⟨rfl, q _ _ ?_ sta⟩⟩
    exact fun b o e => kw b o (s8 b o (s7 _ _ (same6 _ _ e))) (ne_of_none (s7 _ _ (same6 _ _ e)) hnx)
end
end K3

namespace K3
open PySem PySem.Spec PyProof.Rows L2 Hb St Sq Ow En Zp RZ Rd StX
local macro_rules | `(tactic| walk_at "wp") => `(tactic| try simp only [cxOf, tKGet, gName, rIxT, rIxL, tOr, tAnd, tB, tCB, tAsg, tTup, tLst, tSl, tNoPart, tPart, tDrop, tBM, tBM0, tPar, tAug, tIf, tYes, tCKw, tSeq, tRet, tRetN, tTest, tOp, tUn, tVar, tC, tCall, tCons, tNil, tIfS, tNext, tAndV, tOrV, tNot, tNotV, rEq, rNe, rI0, rI, L2.start, List.map_cons, List.map_nil, List.cons_append, List.nil_append, List.length_cons, List.length_nil, List.append_nil, Nat.reduceAdd, Nat.reduceSub, Nat.zero_add, List.replicate, List.getElem?_cons_zero, List.getElem?_cons_succ, List.set_cons_zero, List.set_cons_succ, Option.some.injEq, exists_eq_left', exists_eq_left, V.bl.injEq, V.str.injEq, V.int.injEq, V.ref.injEq, V.ty.injEq, List.cons.injEq, and_true, true_and, exists_and_left])
local macro_rules | `(tactic| walk_at "sd") => `(tactic| (first
  | decide
  | exact ⟨by decide, by decide⟩
  | exact ⟨by decide, by decide, by decide⟩
  | exact Or.inl ⟨by decide, by decide⟩
  | exact Or.inr ⟨by decide, by decide⟩
  | exact divw (by decide) (by decide)
  | exact divw (by omega) (by omega)
  | exact Or.inl ⟨by omega, by omega⟩
  | exact Or.inr ⟨by omega, by omega⟩
  | (show (0 : Int) < _; omega)))
local macro_rules | `(tactic| walk_at "sq") => `(tactic| (first | exact SqT.of (by assumption) | exact SqL.of (by assumption) | exact SqL.of upd_same | assumption))
local macro_rules | `(tactic| walk_at "rd") => `(tactic| repeat (first
  | refine ⟨_, rfl, ?_⟩
  | refine ⟨_, _, rfl, rfl, (by walk_at "sd"), ?_⟩
  | refine ⟨_, _, rfl, rfl, ?_⟩
  | refine ⟨_, _, _, _, rfl, rfl, (by walk_at "sq"), rfl, ?_⟩
  | refine ⟨_, _, _, _, rfl, rfl, (by first | assumption | exact upd_same), rfl, ?_⟩
  | refine ⟨_, _, rfl, Or.inl (by walk_at "sq"), ?_⟩
  | refine ⟨_, _, rfl, ?_⟩
  | refine Or.inl ⟨_, rfl, ?_⟩
  | refine ⟨rfl, ?_⟩))
def tRev (K : PySem.W.Frag) (te : TE) : TE := fun σ H Q => te σ H fun x H1 => ∃ a xs, x = .ref a ∧ SqL K H1 a xs ∧ ∀ p, H1 p = none → Q (.ref p) (upd H1 p (.lst xs.reverse))
theorem pe_revK {X : Cx} {e st : Expr} {te ts : TE} {p3 pos : Pos} (K : PySem.W.Frag) (he : PE X e te) (hs : PE X st ts) (hN : ∀ σ H (Q : VK), Q (.int (-1)) H → ts σ H Q) (hK : X.K = K := by rfl) : PE X (.Subscript e (.Slice none none (some st) p3) pos) (tRev K te) := by
  subst hK
  exact pe_rev he hs hN
/-! ### deals -/
def DealN (H : Hp) (p l : Addr) (ns : List Int) (b : Int) : Prop := H p = some (.lst [.ref l, .int b]) ∧ H l = some (.lst (ns.map V.int)) ∧ p ≠ l ∧ ns.length ≤ 63 ∧ (∀ n ∈ ns, 0 ≤ n) ∧ 0 ≤ b ∧ b < 2 ^ 40
def DealAt (H : Hp) (p l : Addr) : Prop := ∃ ns b, DealN H p l ns b
def Kept2 (p l : Addr) (H H' : Hp) : Prop := ∀ b o, H b = some o → b ≠ p → b ≠ l → H' b = some o
theorem Kept2.refl (p l : Addr) (H : Hp) : Kept2 p l H H := fun _ _ e _ _ => e
theorem Kept2.trans {p l : Addr} {H H1 H2 : Hp} (a : Kept2 p l H H1) (b : Kept2 p l H1 H2) : Kept2 p l H H2 := fun c o e n m => b c o (a c o e n m) n m
theorem Kept2.same {p l : Addr} {H H' : Hp} (s : Same H H') : Kept2 p l H H' := fun b o e _ _ => s b o e
theorem Kept2.p {p l : Addr} {H : Hp} {o : HO} : Kept2 p l H (upd H p o) := fun b u e n _ => by rw [upd_ne n]; exact e
theorem Kept2.l {p l : Addr} {H : Hp} {o : HO} : Kept2 p l H (upd H l o) := fun b u e _ n => by rw [upd_ne n]; exact e
theorem DealAt.same {H H' : Hp} {p l : Addr} (h : DealAt H p l) (s : Same H H') : DealAt H' p l := let ⟨ns, b, a, c, r⟩ := h; ⟨ns, b, s _ _ a, s _ _ c, r⟩
theorem Kept2.fix {p l : Addr} {H H' : Hp} (k : Kept2 p l H H') (d : DealAt H p l) : Fix H H' := fun b o e n => by
  obtain ⟨ns, bb, h1, h2, _⟩ := d
  exact k b o e (fun z => n (by rw [z, h1] at e; exact .inl ⟨_, (Option.some.inj e).symm⟩)) fun z => n (by rw [z, h2] at e; exact .inl ⟨_, (Option.some.inj e).symm⟩)
section
variable {K : PySem.W.Frag} {H : Hp} {Q : VK}
theorem dp_ints : ∀ ns : List Int, DpAll K H (ns.map V.int) (ns.map PyData.int)
  | [] => .nil
  | n :: ns => .cons (.int n) (dp_ints ns)
theorem shp_ints (ns : List Int) : SeqAt.shaped (.list (ns.map PyData.int)) = true := by
  unfold SeqAt.shaped
  rw [PyData.canLay0]
  have h1 : PyData.canLayAll0 (ns.map PyData.int) = true := by
    induction ns with
    | nil => simp [PyData.canLayAll0]
    | cons n ns ih => rw [List.map_cons, PyData.canLayAll0, ih, PyData.canLay0]; rfl
  have h2 := depthAll_le (n := 1) (l := ns.map PyData.int) fun d hd => by
    obtain ⟨n, _, rfl⟩ := List.mem_map.mp hd
    simp [PyData.depth]
  rw [h1, decide_eq_true]
  · rfl
  · simp only [PyData.depth]
    omega
theorem eqv_nil (ns : List Int) : PyData.eqv (.list (ns.map PyData.int)) (.list []) = decide (ns = []) := by
  cases ns with
  | nil => simp [PyData.eqv, PyData.eqvAll]
  | cons n ns => simp [PyData.eqv, PyData.eqvAll]
theorem rd_neNil {l t : Addr} {ns : List Int} (hl : SqL K H l (ns.map V.int)) (ht : SqL K H t []) (q : Q (.bl (!decide (ns = []))) H) : rNeD K (.ref l) (.ref t) H Q :=
  ⟨_, _, .lst hl (dp_ints ns), .lst ht .nil, shp_ints ns, shp_ints [], by rw [eqv_nil]; exact q⟩
end
theorem abs_nn (i : Int) : 0 ≤ (if i < 0 then -i else i) := by
  by_cases h : i < 0
  · rw [if_pos h]; omega
  · rw [if_neg h]; omega
theorem cut_int (ns : List Int) (lo hi : Option Int) : ∃ ms : List Int, cutV (ns.map V.int) lo hi = ms.map V.int ∧ ms.length ≤ ns.length := by
  unfold cutV
  rw [List.length_map]
  refine ⟨_, by rw [List.map_drop.symm, List.map_take.symm], ?_⟩
  rw [List.length_take, List.length_drop]
  omega
section
variable {P : Program} {w : World} {K : PySem.W.Frag} {mg : Str → Option Value} {base : Heap}
/-! ### _law_deal -/
abbrev s__law_deal : Stmt := top 31
theorem sc__law_deal : FnScope ["script", "base", "cell", "cells", "blend"] ["script", "base"] (defScope s__law_deal) := ⟨rfl, rfl, rfl, by decide +kernel, rfl, by decide +kernel, by decide +kernel⟩
def spDeal (K : PySem.W.Frag) : Sp := fun vs H Q _ => ∃ (a : Addr) (ns : List Int), vs = [.ref a, .int 0] ∧ SqL K H a (ns.map V.int) ∧ ns.length ≤ 63 ∧ ∀ p l H', H p = none → H l = none → Same H H' → DealAt H' p l → Q (.ref p) H'
theorem ok_deal {f : Addr} {fd : FuncData} (F : Fun K "_law_deal" "_law_deal" s__law_deal f fd) (n_abs : mg "abs" = none) (n_int : mg "int" = none) : FnOk P w K mg base CX0 1 f fd ["script", "base"] (spDeal K) := by
  refine F.ok sc__law_deal (fun vs H Q E h => ?_) (fun cdv A outer s H vs Q E hr h => ?_)
  · obtain ⟨_, _, rfl, _⟩ := h
    rfl
  · obtain ⟨a, ns, rfl, hs, hl, q⟩ := h
    refine ⟨_, (Evl.pss_cut (ps_setLc (i := 3) (own := [("cell", 2)]) (g := gName 2) (by rfl) sc__law_deal.nd rfl rfl (sw_true rfl rfl rfl (by decide +kernel)) (pi_seq (pe_slice (r := rSlL K) sl_list (pv 0) (po_some (pv 1)) (po_some pe_int))) (blkOk_by (N := ["script", "base", "cell", "cells", "blend"]) (sc := defScope s__law_deal) (by decide +kernel)) (fun _ _ _ _ _ => pg_name (i := 2) sc__law_deal.nd rfl (Or.inl rfl)) (fun _ _ _ _ _ => pts_nil) (fun _ _ _ _ _ => pe_callB call_abs (by rfl) n_abs (by decide +kernel) (pa_cons (pv 2) pa_nil)))
    (pss_cons (ps_set (i := 4) sc__law_deal.nd rfl (Or.inl rfl) (pe_op op_add pe_int (pe_op op_mul pe_int (pv 1))))
    (Evl.pss_cut (ps_for PassesOwn.never rfl (pi_seq (pv 3)) (pg_name (i := 2) sc__law_deal.nd rfl (Or.inl rfl))
      (pss_one (ps_set (i := 4) sc__law_deal.nd rfl (Or.inl rfl) (pe_op op_mod (pe_callTy call_int1 (by rfl) n_int (by decide +kernel) (pa_cons (pe_op op_add (pe_op op_add (pe_op op_mul (pv 4) pe_int) (pe_op op_mod (pe_callTy call_int1 (by rfl) n_int (by decide +kernel) (pa_cons (pv 2) pa_nil)) pe_int)) pe_int) pa_nil)) pe_int))))
    (pss_one (ps_ret (pe_lst (pa_cons (pe_revK K (pe_lc (own := [("cell", 2)]) (g := gName 2) rfl sc__law_deal.nd (pi_seq (pv 3)) (blkOk_by (N := ["script", "base", "cell", "cells", "blend"]) (sc := defScope s__law_deal) (by decide +kernel)) (fun _ _ _ _ _ => pg_name (i := 2) sc__law_deal.nd rfl (Or.inl rfl)) (fun _ _ _ _ _ => pts_one (pt_cmpR op_ge (pv 2) (pe_op op_pow pe_int pe_int) (nomark _))) (fun _ _ _ _ _ => pv 2)) (pe_op op_sub pe_int pe_int) (fun _ _ _ q => ⟨0, 1, rfl, rfl, q⟩)) (pa_cons (pv 4) pa_nil)))))))), ?_⟩
    refine ⟨fun σ H' => ∃ (c : Addr) (o : Option V) (ms : List Int), σ = [some (.ref a), some (.int 0), o, some (.ref c), none] ∧ Same H H' ∧ H' c = some (.lst (ms.map V.int)) ∧ ms.length ≤ 63 ∧ ∀ m ∈ ms, 0 ≤ m, ?_, ?_⟩
    · refine ⟨_, rfl, _, rfl, 0, rfl, 51, rfl, a, _, rfl, hs, fun p hp => ?_⟩
      have s1 := same_new hp (.lst (cutV (ns.map V.int) (some 0) (some 51)))
      obtain ⟨ms, em, lm⟩ := cut_int ns (some 0) (some 51)
      have e1 : (upd H p (.lst (cutV (ns.map V.int) (some 0) (some 51)))) p = some (.lst (ms.map V.int)) := by rw [upd_same, em]
      generalize upd H p (.lst (cutV (ns.map V.int) (some 0) (some 51))) = H1 at s1 e1 ⊢
      refine ⟨p, _, rfl, SqX.lst e1, fun J S W k D hD => ?_⟩
      refine lc_mf (ds := ms) W (fun _ => true) (fun _ y i => y = .int (if i < 0 then -i else i)) k hD (by rw [List.length_map]) (fun i x z H4 ex ez s4 m => ?_) (fun H4 ys s4 e al => ?_)
      · obtain rfl := at_map ex ez
        exact ⟨rfl, _, rfl, z, rfl, mf_yes m hD (fun _ _ _ _ _ h => h) ez (by omega) (Same.refl _) rfl rfl⟩
      · rw [Rd.filter_all] at al
        obtain rfl := al.map_eq fun _ _ h => h
        refine ⟨D, _, ms.map fun i => if i < 0 then -i else i, rfl, s1.trans s4, by rw [List.map_map]; exact e, by rw [List.length_map]; omega, fun m hm => ?_⟩
        obtain ⟨i, _, rfl⟩ := List.mem_map.mp hm
        exact abs_nn i
    rintro σ H1 ⟨c, o, ms, rfl, s1, e1, lm, pm⟩
    walk_at "rd"
    refine ⟨fun σ H' => ∃ o b, σ = [some (.ref a), some (.int 0), o, some (.ref c), some (.int b)] ∧ H' = H1 ∧ 0 ≤ b ∧ b < 2 ^ 40, ?_, ?_⟩
    · refine ⟨_, rfl, c, _, rfl, SqX.lst e1, fun J S W k => ?_⟩
      refine for_sq W (fun i σ H' => ∃ o b, σ = [some (.ref a), some (.int 0), o, some (.ref c), some (.int b)] ∧ H' = H1 ∧ 0 ≤ b ∧ b < 2 ^ 40) ⟨_, _, rfl, rfl, by decide, by decide⟩ (fun i σ H' p => ?_) ?_ ?_
      · obtain ⟨_, _, _, rfl, _⟩ := p
        exact k
      · rintro i σ H2 x ex ⟨o, b, rfl, rfl, b0, b1⟩
        obtain ⟨z, ez⟩ : ∃ z, ms[i]? = some z := ⟨_, List.getElem?_eq_getElem (by have := (List.getElem?_eq_some_iff.mp ex).1; rwa [List.length_map] at this)⟩
        obtain rfl := at_map ex ez
        walk_at "rd"
        exact ⟨Int.emod_nonneg _ (by decide), by omega⟩
      · rintro σ H2 ⟨o, b, rfl, rfl, b0, b1⟩
        exact ⟨o, b, rfl, rfl, b0, b1⟩
    rintro σ H2 ⟨o2, b, rfl, rfl, b0, b1⟩
    refine ⟨_, rfl, c, _, rfl, SqX.lst e1, fun J S W k D hD => ?_⟩
    refine lc_mf (ds := ms) W (fun m => decide ((10 ^ 18 : Int) ≤ m)) (fun _ y i => y = .int i) k hD (by rw [List.length_map]) (fun i x z H4 ex ez s4 m => ?_) (fun H4 ys s4 e al => ?_)
    · obtain rfl := at_map ex ez
      refine ⟨rfl, _, rfl, _, _, rfl, rfl, ⟨by decide, by decide, by decide⟩, _, _, rfl, rfl, _, rfl, ?_⟩
      refine iteD (fun c => ⟨_, rfl, mf_yes m hD (fun _ _ _ _ _ h => h) ez (by omega) (Same.refl _) (decide_eq_true c) rfl⟩) fun c => mf_no m (fun _ _ _ _ _ h => h) ez (Same.refl _) (decide_eq_false c)
    · obtain rfl := al.map_eq fun _ _ h => h
      refine ⟨D, _, rfl, SqL.of e, fun p hp => ?_⟩
      have s5 := same_new hp (.lst ((ms.filter fun m => decide ((10 ^ 18 : Int) ≤ m)).map V.int).reverse)
      refine ⟨_, rfl, by show 2 ≤ sizeLine; decide, fun d hd => ?_⟩
      have s6 := same_new hd (.lst [.ref p, .int b])
      have s26 := ((s1.trans s4).trans s5).trans s6
      have hpH : H p = none := by
        cases h : H p with
        | none => rfl
        | some o => exact absurd rfl (ne_of_none ((s1.trans s4) _ _ h) hp)
      have hdH : H d = none := by
        cases h : H d with
        | none => rfl
        | some o => exact absurd rfl (ne_of_none (((s1.trans s4).trans s5) _ _ h) hd)
      refine q d p _ hdH hpH s26 ⟨(ms.filter fun m => decide ((10 ^ 18 : Int) ≤ m)).reverse, b, upd_same, ?_, (ne_of_none (upd_same (H := H4) (o := .lst ((ms.filter fun m => decide ((10 ^ 18 : Int) ≤ m)).map V.int).reverse)) hd).symm, ?_, fun n hn => ?_, b0, b1⟩
      · rw [s6 _ _ (show upd H4 p (.lst ((ms.filter fun m => decide ((10 ^ 18 : Int) ≤ m)).map V.int).reverse) p = _ from upd_same), List.map_reverse]
      · rw [List.length_reverse]
        exact Nat.le_trans (List.length_filter_le _ _) lm
      · exact pm n (List.mem_filter.mp (List.mem_reverse.mp hn)).1
theorem last_at (ms : List Int) (z : Int) : (ms.map V.int ++ [V.int z])[(ms.map V.int ++ [V.int z]).length - 1]? = some (V.int z) := by
  rw [List.length_append, List.length_singleton, Nat.add_sub_cancel, List.getElem?_append_right (Nat.le_refl _), Nat.sub_self]; rfl
/-! ### _law_draw -/
abbrev s__law_draw : Stmt := top 32
theorem sc__law_draw : FnScope ["deal", "bound", "rest"] ["deal", "bound"] (defScope s__law_draw) := ⟨rfl, rfl, rfl, by decide +kernel, rfl, by decide +kernel, by decide +kernel⟩
def spDraw : Sp := fun vs H Q _ => ∃ (p l : Addr) (many : Int), vs = [.ref p, .int many] ∧ (1 ≤ many ∧ many < 2 ^ 30) ∧ DealAt H p l ∧ ∀ d H', 0 ≤ d → d < many → Kept2 p l H H' → DealAt H' p l → Q (.int d) H'
theorem ok_draw {f : Addr} {fd : FuncData} (F : Fun K "_law_draw" "_law_draw" s__law_draw f fd) (n_int : mg "int" = none) : FnOk P w K mg base CX0 1 f fd ["deal", "bound"] spDraw := by
  refine F.ok sc__law_draw (fun vs H Q E h => ?_) (fun cdv A outer s H vs Q E hr h => ?_)
  · obtain ⟨_, _, _, rfl, _⟩ := h
    rfl
  · obtain ⟨p, l, many, rfl, hm, ⟨ns0, b, hd0⟩, q⟩ := h
    refine ⟨_, (Evl.pss_cut (ps_while PassesOwn.never (PW.pt (pw_and (pt_cmpR (op_neD hr.units) (pe_ix ix_list (pv 0) pe_int (fun _ _ => rfl)) (pe_lst pa_nil) (nomark _)) (pw_and1 (pt_cmpR op_eq (pe_ix ix_list (pe_ix ix_list (pv 0) pe_int (fun _ _ => rfl)) (pe_op op_sub pe_int pe_int) (fun _ _ => rfl)) pe_int (nomark _)))))
      (pss_one (ps_expr (pe_bm0 PySem.F.plainAttrs_list PySem.F.slot_list_pop PySem.F.type_list_pop mt_pop (pe_ix ix_list (pv 0) pe_int (fun _ _ => rfl))))))
    (Evl.pss_cut (ps_if (pt_cmpR (op_neD hr.units) (pe_ix ix_list (pv 0) pe_int (fun _ _ => rfl)) (pe_lst pa_nil) (nomark _)) (pss_cons (ps_set (i := 2) sc__law_draw.nd rfl (Or.inl rfl) (pe_bm0 PySem.F.plainAttrs_list PySem.F.slot_list_pop PySem.F.type_list_pop mt_pop (pe_ix ix_list (pv 0) pe_int (fun _ _ => rfl))))
    (pss_cons (ps_expr (pe_bm PySem.F.plainAttrs_list PySem.F.slot_list_append PySem.F.type_list_append mt_append (pe_ix ix_list (pv 0) pe_int (fun _ _ => rfl)) (pa_cons (pe_op op_fdivW (pv 2) (pv 1)) pa_nil)))
    (pss_one (ps_ret (pe_op op_mod (pe_callTy call_int1 (by rfl) n_int (by decide +kernel) (pa_cons (pv 2) pa_nil)) (pv 1)))))) pss_nil)
    (pss_cons (ps_asg (pe_op op_mod (pe_callTy call_int1 (by rfl) n_int (by decide +kernel) (pa_cons (pe_op op_add (pe_op op_mul (pe_ix ix_list (pv 0) pe_int (fun _ _ => rfl)) pe_int) pe_int) pa_nil)) pe_int) (pg_sub (pv 0) pe_int set_list))
    (pss_one (ps_ret (pe_op op_mod (pe_callTy call_int1 (by rfl) n_int (by decide +kernel) (pa_cons (pe_op op_fdivW (pe_ix ix_list (pv 0) pe_int (fun _ _ => rfl)) pe_int) pa_nil)) (pv 1))))))), ?_⟩
    refine ⟨fun σ H' => σ = [some (.ref p), some (.int many), none] ∧ Kept2 p l H H' ∧ ∃ ns, DealN H' p l ns b, ?_, ?_⟩
    · refine ⟨fun m σ H' => σ = [some (.ref p), some (.int many), none] ∧ Kept2 p l H H' ∧ ∃ ns, ns.length = m ∧ DealN H' p l ns b, ⟨_, rfl, Kept2.refl _ _ _, ns0, rfl, hd0⟩, ?_⟩
      rintro m σ H1 ⟨rfl, k1, ns, lm, hp, hl, npl, ln, pn, b0, b1⟩
      refine ⟨_, rfl, p, _, _, _, rfl, rfl, SqL.of hp, at0, by show 0 ≤ sizeLine; decide, fun t ht => ?_⟩
      have s2 := same_new ht (.lst [])
      have hp2 := s2 _ _ hp
      have hl2 := s2 _ _ hl
      refine rd_neNil (SqL.of hl2) (SqL.of upd_same) ?_
      have k2 := k1.trans (Kept2.same (p := p) (l := l) s2)
      refine ⟨_, rfl, ?_⟩
      rcases List.eq_nil_or_concat ns with e | ⟨ms, z, e⟩
      · subst e
        exact iteF ⟨rfl, k2, [], hp2, hl2, npl, ln, pn, b0, b1⟩
      rw [List.concat_eq_append] at e
      subst e
      rw [decide_eq_false (by simp)]
      have em : (ms ++ [z]).map V.int = ms.map V.int ++ [V.int z] := by rw [List.map_append]; rfl
      rw [em] at hl2
      generalize upd H1 t (.lst []) = H2 at s2 hp2 hl2 k2 ⊢
      refine iteT ⟨_, rfl, p, _, _, _, rfl, rfl, SqL.of hp2, at0, _, _, rfl, rfl, l, _, _, _, rfl, rfl, SqL.of hl2, at_last, rfl, _, rfl, ?_⟩
      refine iteD (fun c => ?_) fun c => ⟨rfl, k2, ms ++ [z], hp2, em ▸ hl2, npl, ln, pn, b0, b1⟩
      refine ⟨fun σ H' => σ = [some (.ref p), some (.int many), none] ∧ Kept2 p l H H' ∧ ∃ ns, ns.length < m ∧ DealN H' p l ns b, fun σ' H' ⟨e1, e2, ns, e3, e4⟩ => ⟨ns.length, e3, e1, e2, ns, rfl, e4⟩, ?_⟩
      refine ⟨_, rfl, p, _, _, _, rfl, rfl, SqL.of hp2, at0, .inl ⟨rfl, _, SqL.of hl2⟩, l, _, .int z, rfl, rfl, hl2, last_at _ _, rfl, k2.trans Kept2.l, ms, by rw [← lm]; simp, ?_⟩
      rw [List.dropLast_concat]
      exact ⟨by rw [upd_ne npl]; exact hp2, upd_same, npl, by simp at ln; omega, fun n hn => pn n (List.mem_append_left _ hn), b0, b1⟩
    rintro σ H1 ⟨rfl, k1, ns, hp, hl, npl, ln, pn, b0, b1⟩
    have lp := npl.symm
    refine ⟨fun σ H' => σ = [some (.ref p), some (.int many), none] ∧ Kept2 p l H H' ∧ ∃ ns, DealN H' p l ns b, ?_, ?_⟩
    · refine ⟨_, rfl, p, _, _, _, rfl, rfl, SqL.of hp, at0, by show 0 ≤ sizeLine; decide, fun t ht => ?_⟩
      have s2 := same_new ht (.lst [])
      have hp2 := s2 _ _ hp
      have hl2 := s2 _ _ hl
      refine rd_neNil (SqL.of hl2) (SqL.of upd_same) ?_
      have k2 := k1.trans (Kept2.same (p := p) (l := l) s2)
      refine ⟨_, rfl, ?_⟩
      rcases List.eq_nil_or_concat ns with e | ⟨ms, z, e⟩
      · subst e
        exact iteF ⟨rfl, k2, [], hp2, hl2, npl, ln, pn, b0, b1⟩
      rw [List.concat_eq_append] at e
      subst e
      rw [decide_eq_false (by simp)]
      have em : (ms ++ [z]).map V.int = ms.map V.int ++ [V.int z] := by rw [List.map_append]; rfl
      rw [em] at hl2
      generalize upd H1 t (.lst []) = H2 at s2 hp2 hl2 k2 ⊢
      have z0 : 0 ≤ z := pn z (by simp)
      refine iteT ⟨_, rfl, p, _, _, _, rfl, rfl, SqL.of hp2, at0, .inl ⟨rfl, _, SqL.of hl2⟩, l, _, .int z, rfl, rfl, hl2, last_at _ _, ?_⟩
      rw [List.dropLast_concat]
      have hp3 : upd H2 l (.lst (ms.map V.int)) p = some (.lst [.ref l, .int b]) := by rw [upd_ne npl]; exact hp2
      have hl3 : upd H2 l (.lst (ms.map V.int)) l = some (.lst (ms.map V.int)) := upd_same
      have k3 := k2.trans (Kept2.l (p := p) (l := l) (H := H2) (o := .lst (ms.map V.int)))
      generalize upd H2 l (.lst (ms.map V.int)) = H3 at hp3 hl3 k3 ⊢
      have lms : ms.length + 1 ≤ 63 := by simpa using ln
      refine ⟨_, rfl, p, _, _, _, rfl, rfl, SqL.of hp3, at0, .inl ⟨rfl, _, SqL.of hl3⟩, _, rfl, _, rfl, _, _, rfl, rfl, divw (by omega) (by omega), l, _, _, rfl, rfl, hl3, by rw [List.length_map, sizeLine_eq]; omega, ?_⟩
      refine ⟨_, rfl, .inl ⟨_, rfl, _, rfl, _, _, rfl, rfl, (by show (0 : Int) < _; omega), ?_⟩⟩
      refine q _ _ (Int.emod_nonneg _ (by omega)) (Int.emod_lt_of_pos _ (by omega)) (k3.trans Kept2.l) ⟨ms ++ [z / many], b, by rw [upd_ne npl]; exact hp3, by rw [upd_same, List.map_append]; rfl, npl, by simp; omega, fun n hn => ?_, b0, b1⟩
      rcases List.mem_append.mp hn with h | h
      · exact pn n (List.mem_append_left _ h)
      · rw [List.mem_singleton.mp h]; exact Int.ediv_nonneg z0 (by omega)
    rintro σ H2 ⟨rfl, k2, ns2, hp2, hl2, _, ln2, pn2, b0, b1⟩
    refine ⟨_, rfl, p, _, _, _, rfl, rfl, SqL.of hp2, at1, ?_⟩
    walk_at "rd"
    exact q _ _ (Int.emod_nonneg _ (by omega)) (Int.emod_lt_of_pos _ (by omega)) (k2.trans Kept2.p) ⟨ns2, (b * 39373 + 97) % 2147483647, upd_same, by rw [upd_ne lp]; exact hl2, npl, ln2, pn2, Int.emod_nonneg _ (by decide), by omega⟩
/-! ### _law_pick -/
abbrev s__law_pick : Stmt := top 33
theorem sc__law_pick : FnScope ["deal", "some"] ["deal", "some"] (defScope s__law_pick) := ⟨rfl, rfl, rfl, by decide +kernel, rfl, by decide +kernel, by decide +kernel⟩
def spPick : Sp := fun vs H Q _ => ∃ (p l s : Addr) (xs : List V), vs = [.ref p, .ref s] ∧ DealAt H p l ∧ H s = some (.lst xs) ∧ s ≠ p ∧ s ≠ l ∧ (1 ≤ xs.length ∧ xs.length ≤ 1000) ∧ ∀ x H', x ∈ xs → Kept2 p l H H' → DealAt H' p l → Q x H'
theorem ok_pick {f : Addr} {fd : FuncData} (F : Fun K "_law_pick" "_law_pick" s__law_pick f fd) (C__law_draw : Cl P w K mg base "_law_draw" ["deal", "bound"] [] 1 spDraw) (n_len : mg "len" = none) : FnOk P w K mg base CX0 2 f fd ["deal", "some"] spPick := by
  refine F.ok sc__law_pick (fun vs H Q E h => ?_) (fun cdv A outer s H vs Q E hr h => ?_)
  · obtain ⟨_, _, _, _, rfl, _⟩ := h
    rfl
  · obtain ⟨p, l, s, xs, rfl, hd, hs, np, nl, hn, q⟩ := h
    refine ⟨_, (pss_one (ps_ret (pe_ix ix_list (pv 1) (pe_use C__law_draw (hr.mono (by decide)) rfl (pa_cons (pv 0) (pa_cons (pe_callB call_len_seq (by rfl) n_len PySem.boot_len (pa_cons (pv 1) pa_nil)) pa_nil))) (fun _ _ => rfl)))), ?_⟩
    refine ⟨_, rfl, _, rfl, _, rfl, s, _, rfl, .inl (SqL.of hs), p, l, _, rfl, ?_, hd, fun d H' d0 d1 k b => ?_⟩
    · omega
    · have hdn : d.toNat < xs.length := by omega
      have e : d = ((d.toNat : Nat) : Int) := by omega
      obtain ⟨x, hx⟩ : ∃ x, xs[d.toNat]? = some x := ⟨_, List.getElem?_eq_getElem hdn⟩
      refine ⟨s, _, d, x, rfl, rfl, SqL.of (k _ _ hs np nl), ?_, q _ H' (List.mem_of_getElem? hx) k b⟩
      rw [e]
      exact at_nat hx
end
end K3

namespace K3
open PySem PySem.Spec PyProof.Rows L2 Hb St Sq Ow En Zp RZ Rd StX
local macro_rules | `(tactic| walk_at "wp") => `(tactic| try simp only [cxOf, tKGet, gName, rIxT, rIxL, tOr, tAnd, tB, tCB, tAsg, tTup, tLst, tSl, tNoPart, tPart, tDrop, tBM, tBM0, tPar, tAug, tIf, tYes, tCKw, tSeq, tRet, tRetN, tTest, tOp, tUn, tVar, tC, tCall, tCons, tNil, tIfS, tNext, tAndV, tOrV, tNot, tNotV, rEq, rNe, rI0, rI, L2.start, List.map_cons, List.map_nil, List.cons_append, List.nil_append, List.length_cons, List.length_nil, List.append_nil, Nat.reduceAdd, Nat.reduceSub, Nat.zero_add, List.replicate, List.getElem?_cons_zero, List.getElem?_cons_succ, List.set_cons_zero, List.set_cons_succ, Option.some.injEq, exists_eq_left', exists_eq_left, V.bl.injEq, V.str.injEq, V.int.injEq, V.ref.injEq, V.ty.injEq, List.cons.injEq, and_true, true_and, exists_and_left])
/-! ### the rows that are drawn -/
theorem fit_mk {k : Str} {x : L2.Key} (h1 : k ∈ kindsL) (h2 : k = "count" → ∃ i : Int, x = .inl i ∧ 1 ≤ i) (h3 : k = "thing" ∨ k = "bell" → ∃ s, x = .inr s) (h4 : ∀ s, x = .inr s → IsNm s) : fit (k, x) := ⟨h1, h2, h3, h4⟩
theorem fit_side {k : L2.Key} (h : ∀ s, k = .inr s → IsNm s) : fit ("side", k) := fit_mk (by decide +kernel) (fun e => absurd e (by decide)) (fun e => absurd e (by decide)) h
theorem fit_thing {s : Str} (h : IsNm s) : fit ("thing", .inr s) := fit_mk (by decide +kernel) (fun e => absurd e (by decide)) (fun _ => ⟨s, rfl⟩) fun t e => by cases e; exact h
theorem fit_bell {s : Str} (h : IsNm s) : fit ("bell", .inr s) := fit_mk (by decide +kernel) (fun e => absurd e (by decide)) (fun _ => ⟨s, rfl⟩) fun t e => by cases e; exact h
theorem fit_row (i : Int) : fit ("row", .inl i) := fit_mk (by decide +kernel) (fun e => absurd e (by decide)) (fun e => absurd e (by decide)) fun s e => by cases e
theorem fit_count {i : Int} (h : 1 ≤ i) : fit ("count", .inl i) := fit_mk (by decide +kernel) (fun _ => ⟨i, rfl, h⟩) (fun e => absurd e (by decide)) fun s e => by cases e
theorem fitR_no {n : Nat} {k : Str} {x : L2.Key} (h : k ≠ "row") : fitR n (k, x) := fun e => absurd (isR_fst.mp e) h
theorem fitR_row {n i : Nat} (h : i < n) : fitR n ("row", .inl (i : Nat)) := fun _ => ⟨i, rfl, h⟩
theorem rk_mk {n : Nat} {w : Str} {as : List L2.Key} (ps : List (Str × L2.Key)) (e : prt ⟨w, as⟩ = ps) (ln : as.length = (frm w).length) (wd : w ∈ wordsL) (h : ∀ p ∈ ps, fitR n p ∧ fit p) (ab : w = "above" → ∃ x y, as = [x, y] ∧ x ≠ y ∧ ((∃ s, x = .inr s) ∨ ∃ s, y = .inr s)) : Rk n ⟨w, as⟩ :=
  ⟨⟨ln, fun p hp => (h p (e ▸ hp)).1⟩, wd, fun p hp => (h p (e ▸ hp)).2, ab⟩
theorem all1 {α : Type} {p : α → Prop} {a : α} (h : p a) : ∀ x ∈ [a], p x := fun x hx => by rw [List.mem_singleton.mp hx]; exact h
theorem all2 {α : Type} {p : α → Prop} {a b : α} (h : p a) (k : p b) : ∀ x ∈ [a, b], p x := fun x hx => by
  rcases List.mem_cons.mp hx with e | hx
  · rw [e]; exact h
  · rw [List.mem_singleton.mp hx]; exact k
theorem rk_above {n : Nat} {x y : L2.Key} (hx : ∀ s, x = .inr s → IsNm s) (hy : ∀ s, y = .inr s → IsNm s) (ne : x ≠ y) (h : (∃ s, x = .inr s) ∨ ∃ s, y = .inr s) : Rk n ⟨"above", [x, y]⟩ :=
  rk_mk [("side", x), ("side", y)] rfl rfl (by decide +kernel) (all2 ⟨fitR_no (by decide), fit_side hx⟩ ⟨fitR_no (by decide), fit_side hy⟩) fun _ => ⟨x, y, rfl, ne, h⟩
theorem rk_rises {n : Nat} {s : Str} (h : IsNm s) : Rk n ⟨"rises", [.inr s]⟩ := rk_mk [("thing", .inr s)] rfl rfl (by decide +kernel) (all1 ⟨fitR_no (by decide), fit_thing h⟩) fun e => absurd e (by decide)
theorem rk_falls {n : Nat} {s : Str} (h : IsNm s) : Rk n ⟨"falls", [.inr s]⟩ := rk_mk [("thing", .inr s)] rfl rfl (by decide +kernel) (all1 ⟨fitR_no (by decide), fit_thing h⟩) fun e => absurd e (by decide)
theorem rk_rings {n : Nat} {s : Str} (h : IsNm s) : Rk n ⟨"rings", [.inr s]⟩ := rk_mk [("bell", .inr s)] rfl rfl (by decide +kernel) (all1 ⟨fitR_no (by decide), fit_bell h⟩) fun e => absurd e (by decide)
theorem rk_not {n i : Nat} (h : i < n) : Rk n ⟨"not", [.inl (i : Nat)]⟩ := rk_mk [("row", .inl (i : Nat))] rfl rfl (by decide +kernel) (all1 ⟨fitR_row h, fit_row _⟩) fun e => absurd e (by decide)
theorem rk_soon {w : Str} (hw : w ∈ soonL) {n i : Nat} {k : Int} (h : i < n) (h1 : 1 ≤ k) : Rk n ⟨w, [.inl (i : Nat), .inl k]⟩ := by
  have g : ∀ p ∈ [(("row" : Str), (.inl (i : Nat) : L2.Key)), ("count", .inl k)], fitR n p ∧ fit p := all2 ⟨fitR_row h, fit_row _⟩ ⟨fitR_no (by decide), fit_count h1⟩
  rcases List.mem_cons.mp hw with rfl | hw
  · exact rk_mk _ rfl rfl (by decide +kernel) g fun e => absurd e (by decide)
  · obtain rfl := List.mem_singleton.mp hw
    exact rk_mk _ rfl rfl (by decide +kernel) g fun e => absurd e (by decide)
def twoL : List Str := ["and", "or", "until", "since"]
theorem rk_two {w : Str} (hw : w ∈ twoL) {n i j : Nat} (h : i < n) (k : j < n) : Rk n ⟨w, [.inl (i : Nat), .inl (j : Nat)]⟩ := by
  have g : ∀ p ∈ [(("row" : Str), (.inl (i : Nat) : L2.Key)), ("row", .inl (j : Nat))], fitR n p ∧ fit p := all2 ⟨fitR_row h, fit_row _⟩ ⟨fitR_row k, fit_row _⟩
  simp only [twoL, List.mem_cons, List.not_mem_nil, or_false] at hw
  rcases hw with rfl | rfl | rfl | rfl <;> exact rk_mk _ rfl rfl (by decide +kernel) g fun e => absurd e (by decide)
theorem nm_cat : IsNm "cat" := ⟨by decide +kernel, by decide +kernel, by decide +kernel⟩
theorem nm_dog : IsNm "dog" := ⟨by decide +kernel, by decide +kernel, by decide +kernel⟩
theorem nm_inr {x s : Str} (h : IsNm x) (e : (.inr x : L2.Key) = .inr s) : IsNm s := by injection e with e; exact e ▸ h
def atoms : List Rw := [⟨"above", [.inr "cat", .inl 0]⟩, ⟨"above", [.inl 0, .inr "cat"]⟩, ⟨"rises", [.inr "dog"]⟩, ⟨"rings", [.inr "cat"]⟩, ⟨"above", [.inr "cat", .inr "dog"]⟩, ⟨"falls", [.inr "dog"]⟩]
theorem atoms_rk {n : Nat} : ∀ r ∈ atoms, Rk n r := by
  intro r hr
  simp only [atoms, List.mem_cons, List.not_mem_nil, or_false] at hr
  rcases hr with rfl | rfl | rfl | rfl | rfl | rfl
  · exact rk_above (fun _ e => nm_inr nm_cat e) (fun _ e => by cases e) (by decide) (.inl ⟨_, rfl⟩)
  · exact rk_above (fun _ e => by cases e) (fun _ e => nm_inr nm_cat e) (by decide) (.inr ⟨_, rfl⟩)
  · exact rk_rises nm_dog
  · exact rk_rings nm_cat
  · exact rk_above (fun _ e => nm_inr nm_cat e) (fun _ e => nm_inr nm_dog e) (by decide +kernel) (.inl ⟨_, rfl⟩)
  · exact rk_falls nm_dog
/-- what the law's rows name -/
structure Sm (r : Rw) : Prop where
  as : ∀ x ∈ r.as, x = .inr "cat" ∨ x = .inr "dog" ∨ ∃ i : Int, x = .inl i ∧ i.natAbs < 1000
  bell : r.w = "rings" → r.as = [.inr "cat"]
theorem atoms_sm : ∀ r ∈ atoms, Sm r := by
  intro r hr
  simp only [atoms, List.mem_cons, List.not_mem_nil, or_false] at hr
  rcases hr with rfl | rfl | rfl | rfl | rfl | rfl
  · exact ⟨all2 (.inl rfl) (.inr (.inr ⟨0, rfl, by decide⟩)), fun e => absurd e (by decide +kernel)⟩
  · exact ⟨all2 (.inr (.inr ⟨0, rfl, by decide⟩)) (.inl rfl), fun e => absurd e (by decide +kernel)⟩
  · exact ⟨all1 (.inr (.inl rfl)), fun e => absurd e (by decide +kernel)⟩
  · exact ⟨all1 (.inl rfl), fun _ => rfl⟩
  · exact ⟨all2 (.inl rfl) (.inr (.inl rfl)), fun e => absurd e (by decide +kernel)⟩
  · exact ⟨all1 (.inr (.inl rfl)), fun e => absurd e (by decide +kernel)⟩
theorem sm_ints {w : Str} {is : List Int} (h : ∀ i ∈ is, i.natAbs < 1000) (hw : w ≠ "rings") : Sm ⟨w, is.map .inl⟩ := ⟨fun x hx => by
  obtain ⟨i, hi, rfl⟩ := List.mem_map.mp hx
  exact .inr (.inr ⟨i, rfl, h i hi⟩), fun e => absurd e hw⟩
theorem soon_nr {w : Str} (h : w ∈ soonL) : w ≠ "rings" := fun e => by subst e; exact absurd h (by decide +kernel)
theorem two_nr {w : Str} (h : w ∈ twoL) : w ≠ "rings" := fun e => by subst e; exact absurd h (by decide +kernel)
section
variable {P : Program} {w : World} {K : PySem.W.Frag} {mg : Str → Option Value} {base : Heap}
/-! ### _law_row -/
abbrev s__law_row : Stmt := top 34
theorem sc__law_row : FnScope ["deal", "at", "word", "one", "other"] ["deal", "at"] (defScope s__law_row) := ⟨rfl, rfl, rfl, by decide +kernel, rfl, by decide +kernel, by decide +kernel⟩
def spLRow (K : PySem.W.Frag) : Sp := fun vs H Q _ => ∃ (p l : Addr) (n : Nat), vs = [.ref p, .int (n : Nat)] ∧ DealAt H p l ∧ n < 100 ∧ ∀ v r H', Kept2 p l H H' → DealAt H' p l → RowT H' v r → Rk n r → Sm r → Q v H'
theorem ok_lrow {f : Addr} {fd : FuncData} (F : Fun K "_law_row" "_law_row" s__law_row f fd) (C__law_draw : Cl P w K mg base "_law_draw" ["deal", "bound"] [] 1 spDraw) (C__law_pick : Cl P w K mg base "_law_pick" ["deal", "some"] [] 2 spPick) : FnOk P w K mg base CX0 3 f fd ["deal", "at"] (spLRow K) := by
  refine F.ok sc__law_row (fun vs H Q E h => ?_) (fun cdv A outer s H vs Q E hr h => ?_)
  · obtain ⟨_, _, _, rfl, _⟩ := h
    rfl
  · obtain ⟨p, l, n, rfl, hd, hn, q⟩ := h
    refine ⟨_, (Evl.pss_cut (ps_if (PW.pt (pw_or (pt_cmpR op_eq (pv 1) pe_int (nomark _)) (pw_or1 (pt_cmpR op_eq (pe_use C__law_draw (hr.mono (by decide)) rfl (pa_cons (pv 0) (pa_cons pe_int pa_nil))) pe_int (nomark _))))) (pss_one (ps_ret (pe_use C__law_pick (hr.mono (by decide)) rfl (pa_cons (pv 0) (pa_cons (pe_lst (pa_cons (pe_tup (pa_cons pe_str (pa_cons pe_str (pa_cons pe_int pa_nil)))) (pa_cons (pe_tup (pa_cons pe_str (pa_cons pe_int (pa_cons pe_str pa_nil)))) (pa_cons (pe_tup (pa_cons pe_str (pa_cons pe_str pa_nil))) (pa_cons (pe_tup (pa_cons pe_str (pa_cons pe_str pa_nil))) (pa_cons (pe_tup (pa_cons pe_str (pa_cons pe_str (pa_cons pe_str pa_nil)))) (pa_cons (pe_tup (pa_cons pe_str (pa_cons pe_str pa_nil))) pa_nil))))))) pa_nil))))) pss_nil)
    (pss_cons (ps_set (i := 2) sc__law_row.nd rfl (Or.inl rfl) (pe_use C__law_pick (hr.mono (by decide)) rfl (pa_cons (pv 0) (pa_cons (pe_lst (pa_cons pe_str (pa_cons pe_str (pa_cons pe_str (pa_cons pe_str (pa_cons pe_str (pa_cons pe_str (pa_cons pe_str (pa_cons pe_str (pa_cons pe_str pa_nil)))))))))) pa_nil))))
    (pss_cons (ps_par (i := 3) (j := 4) (by rfl) sc__law_row.nd rfl rfl (by decide) rfl rfl (pa_cons (pe_use C__law_draw (hr.mono (by decide)) rfl (pa_cons (pv 0) (pa_cons (pv 1) pa_nil))) (pa_cons (pe_use C__law_draw (hr.mono (by decide)) rfl (pa_cons (pv 0) (pa_cons (pv 1) pa_nil))) pa_nil)) (by rfl))
    (Evl.pss_cut (ps_if (pt_cmpR op_eq (pv 2) pe_str (nomark _)) (pss_one (ps_ret (pe_tup (pa_cons (pv 2) (pa_cons (pv 3) pa_nil))))) pss_nil)
    (pss_one (ps_ret (pe_ifExp (pt_cmpR op_in_seq (pv 2) (pe_tup (pa_cons pe_str (pa_cons pe_str pa_nil))) rfl) (pe_tup (pa_cons (pv 2) (pa_cons (pv 3) (pa_cons (pe_op op_add pe_int (pe_use C__law_draw (hr.mono (by decide)) rfl (pa_cons (pv 0) (pa_cons pe_int pa_nil)))) pa_nil)))) (pe_tup (pa_cons (pv 2) (pa_cons (pv 3) (pa_cons (pv 4) pa_nil))))))))))), ?_⟩
    refine ⟨fun σ H' => σ = [some (.ref p), some (.int (n : Nat)), none, none, none] ∧ Kept2 p l H H' ∧ DealAt H' p l ∧ 0 < n, ?_, ?_⟩
    · refine ⟨_, rfl, rfl, _, rfl, iteD (fun e => ?_) fun e => ?_⟩
      · have sa := Same.refl H
        refine ⟨_, rfl, ?_⟩
        refine ⟨by show 3 ≤ sizeLine; decide, fun t1 hn1 => ?_⟩
        have s1 := same_new hn1 (.tup [.str "above", .str "cat", .int 0])
        have e1 : upd H t1 (.tup [.str "above", .str "cat", .int 0]) t1 = some (.tup (rowV ⟨"above", [.inr "cat", .inl 0]⟩)) := upd_same
        replace sa := sa.trans s1
        generalize upd H t1 (.tup [.str "above", .str "cat", .int 0]) = G1 at sa e1 ⊢
        clear s1
        refine ⟨by show 3 ≤ sizeLine; decide, fun t2 hn2 => ?_⟩
        have s2 := same_new hn2 (.tup [.str "above", .int 0, .str "cat"])
        have e2 : upd G1 t2 (.tup [.str "above", .int 0, .str "cat"]) t2 = some (.tup (rowV ⟨"above", [.inl 0, .inr "cat"]⟩)) := upd_same
        replace e1 := s2 _ _ e1
        replace sa := sa.trans s2
        generalize upd G1 t2 (.tup [.str "above", .int 0, .str "cat"]) = G2 at sa e1 e2 ⊢
        clear s2
        refine ⟨by show 2 ≤ sizeLine; decide, fun t3 hn3 => ?_⟩
        have s3 := same_new hn3 (.tup [.str "rises", .str "dog"])
        have e3 : upd G2 t3 (.tup [.str "rises", .str "dog"]) t3 = some (.tup (rowV ⟨"rises", [.inr "dog"]⟩)) := upd_same
        replace e1 := s3 _ _ e1
        replace e2 := s3 _ _ e2
        replace sa := sa.trans s3
        generalize upd G2 t3 (.tup [.str "rises", .str "dog"]) = G3 at sa e1 e2 e3 ⊢
        clear s3
        refine ⟨by show 2 ≤ sizeLine; decide, fun t4 hn4 => ?_⟩
        have s4 := same_new hn4 (.tup [.str "rings", .str "cat"])
        have e4 : upd G3 t4 (.tup [.str "rings", .str "cat"]) t4 = some (.tup (rowV ⟨"rings", [.inr "cat"]⟩)) := upd_same
        replace e1 := s4 _ _ e1
        replace e2 := s4 _ _ e2
        replace e3 := s4 _ _ e3
        replace sa := sa.trans s4
        generalize upd G3 t4 (.tup [.str "rings", .str "cat"]) = G4 at sa e1 e2 e3 e4 ⊢
        clear s4
        refine ⟨by show 3 ≤ sizeLine; decide, fun t5 hn5 => ?_⟩
        have s5 := same_new hn5 (.tup [.str "above", .str "cat", .str "dog"])
        have e5 : upd G4 t5 (.tup [.str "above", .str "cat", .str "dog"]) t5 = some (.tup (rowV ⟨"above", [.inr "cat", .inr "dog"]⟩)) := upd_same
        replace e1 := s5 _ _ e1
        replace e2 := s5 _ _ e2
        replace e3 := s5 _ _ e3
        replace e4 := s5 _ _ e4
        replace sa := sa.trans s5
        generalize upd G4 t5 (.tup [.str "above", .str "cat", .str "dog"]) = G5 at sa e1 e2 e3 e4 e5 ⊢
        clear s5
        refine ⟨by show 2 ≤ sizeLine; decide, fun t6 hn6 => ?_⟩
        have s6 := same_new hn6 (.tup [.str "falls", .str "dog"])
        have e6 : upd G5 t6 (.tup [.str "falls", .str "dog"]) t6 = some (.tup (rowV ⟨"falls", [.inr "dog"]⟩)) := upd_same
        replace e1 := s6 _ _ e1
        replace e2 := s6 _ _ e2
        replace e3 := s6 _ _ e3
        replace e4 := s6 _ _ e4
        replace e5 := s6 _ _ e5
        replace sa := sa.trans s6
        generalize upd G5 t6 (.tup [.str "falls", .str "dog"]) = G6 at sa e1 e2 e3 e4 e5 e6 ⊢
        clear s6
        refine ⟨by show 6 ≤ sizeLine; decide, fun s hs => ?_⟩
        have dG := DealAt.same hd sa
        have np : s ≠ p := by obtain ⟨_, _, z, _⟩ := dG; exact (ne_of_none z hs).symm
        have nl : s ≠ l := by obtain ⟨_, _, _, z, _⟩ := dG; exact (ne_of_none z hs).symm
        have s7 := same_new hs (.lst [.ref t1, .ref t2, .ref t3, .ref t4, .ref t5, .ref t6])
        have e7 : upd G6 s (.lst [.ref t1, .ref t2, .ref t3, .ref t4, .ref t5, .ref t6]) s = some (.lst [.ref t1, .ref t2, .ref t3, .ref t4, .ref t5, .ref t6]) := upd_same
        replace e1 := s7 _ _ e1
        replace e2 := s7 _ _ e2
        replace e3 := s7 _ _ e3
        replace e4 := s7 _ _ e4
        replace e5 := s7 _ _ e5
        replace e6 := s7 _ _ e6
        replace sa := sa.trans s7
        generalize upd G6 s (.lst [.ref t1, .ref t2, .ref t3, .ref t4, .ref t5, .ref t6]) = G7 at sa e1 e2 e3 e4 e5 e6 e7 ⊢
        refine ⟨p, l, s, _, rfl, DealAt.same hd sa, e7, np, nl, ⟨by simp, by simp⟩, fun x H9 hx k b => ?_⟩
        have kk := (Kept2.refl p l H).trans ((Kept2.same sa).trans k)
        have ff := k.fix (DealAt.same hd sa)
        have ar := fun r hr => atoms_rk (n := n) r hr
        simp only [List.mem_cons, List.not_mem_nil, or_false] at hx
        rcases hx with rfl | rfl | rfl | rfl | rfl | rfl
        · exact q _ _ H9 kk b (RowT.fix ff ⟨t1, rfl, e1⟩) (ar ⟨"above", [.inr "cat", .inl 0]⟩ (by simp [atoms])) (atoms_sm ⟨"above", [.inr "cat", .inl 0]⟩ (by simp [atoms]))
        · exact q _ _ H9 kk b (RowT.fix ff ⟨t2, rfl, e2⟩) (ar ⟨"above", [.inl 0, .inr "cat"]⟩ (by simp [atoms])) (atoms_sm ⟨"above", [.inl 0, .inr "cat"]⟩ (by simp [atoms]))
        · exact q _ _ H9 kk b (RowT.fix ff ⟨t3, rfl, e3⟩) (ar ⟨"rises", [.inr "dog"]⟩ (by simp [atoms])) (atoms_sm ⟨"rises", [.inr "dog"]⟩ (by simp [atoms]))
        · exact q _ _ H9 kk b (RowT.fix ff ⟨t4, rfl, e4⟩) (ar ⟨"rings", [.inr "cat"]⟩ (by simp [atoms])) (atoms_sm ⟨"rings", [.inr "cat"]⟩ (by simp [atoms]))
        · exact q _ _ H9 kk b (RowT.fix ff ⟨t5, rfl, e5⟩) (ar ⟨"above", [.inr "cat", .inr "dog"]⟩ (by simp [atoms])) (atoms_sm ⟨"above", [.inr "cat", .inr "dog"]⟩ (by simp [atoms]))
        · exact q _ _ H9 kk b (RowT.fix ff ⟨t6, rfl, e6⟩) (ar ⟨"falls", [.inr "dog"]⟩ (by simp [atoms])) (atoms_sm ⟨"falls", [.inr "dog"]⟩ (by simp [atoms]))
      · refine ⟨_, rfl, p, l, 4, rfl, ⟨by decide, by decide⟩, hd, fun d H1 d0 d1 k1 b1 => ⟨rfl, _, rfl, iteD (fun e => ?_) fun e => ?_⟩⟩
        · have sa := Same.refl H1
          refine ⟨_, rfl, ?_⟩
          refine ⟨by show 3 ≤ sizeLine; decide, fun t1 hn1 => ?_⟩
          have s1 := same_new hn1 (.tup [.str "above", .str "cat", .int 0])
          have e1 : upd H1 t1 (.tup [.str "above", .str "cat", .int 0]) t1 = some (.tup (rowV ⟨"above", [.inr "cat", .inl 0]⟩)) := upd_same
          replace sa := sa.trans s1
          generalize upd H1 t1 (.tup [.str "above", .str "cat", .int 0]) = G1 at sa e1 ⊢
          clear s1
          refine ⟨by show 3 ≤ sizeLine; decide, fun t2 hn2 => ?_⟩
          have s2 := same_new hn2 (.tup [.str "above", .int 0, .str "cat"])
          have e2 : upd G1 t2 (.tup [.str "above", .int 0, .str "cat"]) t2 = some (.tup (rowV ⟨"above", [.inl 0, .inr "cat"]⟩)) := upd_same
          replace e1 := s2 _ _ e1
          replace sa := sa.trans s2
          generalize upd G1 t2 (.tup [.str "above", .int 0, .str "cat"]) = G2 at sa e1 e2 ⊢
          clear s2
          refine ⟨by show 2 ≤ sizeLine; decide, fun t3 hn3 => ?_⟩
          have s3 := same_new hn3 (.tup [.str "rises", .str "dog"])
          have e3 : upd G2 t3 (.tup [.str "rises", .str "dog"]) t3 = some (.tup (rowV ⟨"rises", [.inr "dog"]⟩)) := upd_same
          replace e1 := s3 _ _ e1
          replace e2 := s3 _ _ e2
          replace sa := sa.trans s3
          generalize upd G2 t3 (.tup [.str "rises", .str "dog"]) = G3 at sa e1 e2 e3 ⊢
          clear s3
          refine ⟨by show 2 ≤ sizeLine; decide, fun t4 hn4 => ?_⟩
          have s4 := same_new hn4 (.tup [.str "rings", .str "cat"])
          have e4 : upd G3 t4 (.tup [.str "rings", .str "cat"]) t4 = some (.tup (rowV ⟨"rings", [.inr "cat"]⟩)) := upd_same
          replace e1 := s4 _ _ e1
          replace e2 := s4 _ _ e2
          replace e3 := s4 _ _ e3
          replace sa := sa.trans s4
          generalize upd G3 t4 (.tup [.str "rings", .str "cat"]) = G4 at sa e1 e2 e3 e4 ⊢
          clear s4
          refine ⟨by show 3 ≤ sizeLine; decide, fun t5 hn5 => ?_⟩
          have s5 := same_new hn5 (.tup [.str "above", .str "cat", .str "dog"])
          have e5 : upd G4 t5 (.tup [.str "above", .str "cat", .str "dog"]) t5 = some (.tup (rowV ⟨"above", [.inr "cat", .inr "dog"]⟩)) := upd_same
          replace e1 := s5 _ _ e1
          replace e2 := s5 _ _ e2
          replace e3 := s5 _ _ e3
          replace e4 := s5 _ _ e4
          replace sa := sa.trans s5
          generalize upd G4 t5 (.tup [.str "above", .str "cat", .str "dog"]) = G5 at sa e1 e2 e3 e4 e5 ⊢
          clear s5
          refine ⟨by show 2 ≤ sizeLine; decide, fun t6 hn6 => ?_⟩
          have s6 := same_new hn6 (.tup [.str "falls", .str "dog"])
          have e6 : upd G5 t6 (.tup [.str "falls", .str "dog"]) t6 = some (.tup (rowV ⟨"falls", [.inr "dog"]⟩)) := upd_same
          replace e1 := s6 _ _ e1
          replace e2 := s6 _ _ e2
          replace e3 := s6 _ _ e3
          replace e4 := s6 _ _ e4
          replace e5 := s6 _ _ e5
          replace sa := sa.trans s6
          generalize upd G5 t6 (.tup [.str "falls", .str "dog"]) = G6 at sa e1 e2 e3 e4 e5 e6 ⊢
          clear s6
          refine ⟨by show 6 ≤ sizeLine; decide, fun s hs => ?_⟩
          have dG := DealAt.same b1 sa
          have np : s ≠ p := by obtain ⟨_, _, z, _⟩ := dG; exact (ne_of_none z hs).symm
          have nl : s ≠ l := by obtain ⟨_, _, _, z, _⟩ := dG; exact (ne_of_none z hs).symm
          have s7 := same_new hs (.lst [.ref t1, .ref t2, .ref t3, .ref t4, .ref t5, .ref t6])
          have e7 : upd G6 s (.lst [.ref t1, .ref t2, .ref t3, .ref t4, .ref t5, .ref t6]) s = some (.lst [.ref t1, .ref t2, .ref t3, .ref t4, .ref t5, .ref t6]) := upd_same
          replace e1 := s7 _ _ e1
          replace e2 := s7 _ _ e2
          replace e3 := s7 _ _ e3
          replace e4 := s7 _ _ e4
          replace e5 := s7 _ _ e5
          replace e6 := s7 _ _ e6
          replace sa := sa.trans s7
          generalize upd G6 s (.lst [.ref t1, .ref t2, .ref t3, .ref t4, .ref t5, .ref t6]) = G7 at sa e1 e2 e3 e4 e5 e6 e7 ⊢
          refine ⟨p, l, s, _, rfl, DealAt.same b1 sa, e7, np, nl, ⟨by simp, by simp⟩, fun x H9 hx k b => ?_⟩
          have kk := (k1).trans ((Kept2.same sa).trans k)
          have ff := k.fix (DealAt.same b1 sa)
          have ar := fun r hr => atoms_rk (n := n) r hr
          simp only [List.mem_cons, List.not_mem_nil, or_false] at hx
          rcases hx with rfl | rfl | rfl | rfl | rfl | rfl
          · exact q _ _ H9 kk b (RowT.fix ff ⟨t1, rfl, e1⟩) (ar ⟨"above", [.inr "cat", .inl 0]⟩ (by simp [atoms])) (atoms_sm ⟨"above", [.inr "cat", .inl 0]⟩ (by simp [atoms]))
          · exact q _ _ H9 kk b (RowT.fix ff ⟨t2, rfl, e2⟩) (ar ⟨"above", [.inl 0, .inr "cat"]⟩ (by simp [atoms])) (atoms_sm ⟨"above", [.inl 0, .inr "cat"]⟩ (by simp [atoms]))
          · exact q _ _ H9 kk b (RowT.fix ff ⟨t3, rfl, e3⟩) (ar ⟨"rises", [.inr "dog"]⟩ (by simp [atoms])) (atoms_sm ⟨"rises", [.inr "dog"]⟩ (by simp [atoms]))
          · exact q _ _ H9 kk b (RowT.fix ff ⟨t4, rfl, e4⟩) (ar ⟨"rings", [.inr "cat"]⟩ (by simp [atoms])) (atoms_sm ⟨"rings", [.inr "cat"]⟩ (by simp [atoms]))
          · exact q _ _ H9 kk b (RowT.fix ff ⟨t5, rfl, e5⟩) (ar ⟨"above", [.inr "cat", .inr "dog"]⟩ (by simp [atoms])) (atoms_sm ⟨"above", [.inr "cat", .inr "dog"]⟩ (by simp [atoms]))
          · exact q _ _ H9 kk b (RowT.fix ff ⟨t6, rfl, e6⟩) (ar ⟨"falls", [.inr "dog"]⟩ (by simp [atoms])) (atoms_sm ⟨"falls", [.inr "dog"]⟩ (by simp [atoms]))
        · exact ⟨rfl, k1, b1, by have : ¬ n = 0 := fun z => by subst z; contradiction
                                 omega⟩
    rintro σ H1 ⟨rfl, k1, d1, n0⟩
    refine ⟨_, rfl, by show 9 ≤ sizeLine; decide, fun s hs => ?_⟩
    have np : s ≠ p := by obtain ⟨_, _, z, _⟩ := d1; exact (ne_of_none z hs).symm
    have nl : s ≠ l := by obtain ⟨_, _, _, z, _⟩ := d1; exact (ne_of_none z hs).symm
    have s7 := same_new hs (.lst [.str "not", .str "and", .str "or", .str "until", .str "since", .str "soon", .str "lately", .str "until", .str "and"])
    have e7 : upd H1 s (.lst [.str "not", .str "and", .str "or", .str "until", .str "since", .str "soon", .str "lately", .str "until", .str "and"]) s = some (.lst [.str "not", .str "and", .str "or", .str "until", .str "since", .str "soon", .str "lately", .str "until", .str "and"]) := upd_same
    generalize upd H1 s (.lst [.str "not", .str "and", .str "or", .str "until", .str "since", .str "soon", .str "lately", .str "until", .str "and"]) = H2 at s7 e7 ⊢
    refine ⟨p, l, s, _, rfl, d1.same s7, e7, np, nl, ⟨by simp, by simp⟩, fun x H3 hx k3 d3 => ?_⟩
    have kk := k1.trans ((Kept2.same s7).trans k3)
    obtain ⟨wd, rfl, hw⟩ : ∃ wd, x = .str wd ∧ (wd = "not" ∨ wd ∈ soonL ∨ wd ∈ twoL) := by
      simp only [List.mem_cons, List.not_mem_nil, or_false] at hx
      rcases hx with rfl | rfl | rfl | rfl | rfl | rfl | rfl | rfl | rfl <;> exact ⟨_, rfl, by decide +kernel⟩
    refine ⟨_, rfl, _, rfl, p, l, n, rfl, ⟨by omega, by omega⟩, d3, fun i H4 i0 i1 k4 d4 => ⟨_, rfl, _, rfl, p, l, n, rfl, ⟨by omega, by omega⟩, d4, fun j H5 j0 j1 k5 d5 => ?_⟩⟩
    obtain ⟨i, rfl⟩ : ∃ z : Nat, i = (z : Nat) := ⟨i.toNat, by omega⟩
    obtain ⟨j, rfl⟩ : ∃ z : Nat, j = (z : Nat) := ⟨j.toNat, by omega⟩
    have kk5 := (kk.trans k4).trans k5
    refine ⟨_, _, rfl, ?_⟩
    refine ⟨fun σ H' => σ = [some (.ref p), some (.int (n : Nat)), some (.str wd), some (.int (i : Nat)), some (.int (j : Nat))] ∧ H' = H5 ∧ wd ≠ "not", ?_, ?_⟩
    · refine ⟨_, rfl, rfl, _, rfl, iteD (fun e => ?_) fun e => ?_⟩
      · injection e with e
        subst e
        refine ⟨_, rfl, _, rfl, by show 2 ≤ sizeLine; decide, fun t ht => ?_⟩
        exact q _ ⟨"not", [.inl (i : Nat)]⟩ _ (kk5.trans (Kept2.same (same_new ht _))) (d5.same (same_new ht _)) ⟨t, rfl, upd_same⟩ (rk_not (by omega)) (sm_ints (is := [(i : Nat)]) (all1 (by omega)) (by decide))
      · exact ⟨rfl, rfl, fun z => e (congrArg V.str z)⟩
    rintro σ H6 ⟨rfl, rfl, hno⟩
    refine ⟨_, rfl, by show 2 ≤ sizeLine; decide, fun t ht => ?_⟩
    have s8 := same_new ht (.tup [.str "soon", .str "lately"])
    have e8 : upd H6 t (.tup [.str "soon", .str "lately"]) t = some (.tup [.str "soon", .str "lately"]) := upd_same
    generalize upd H6 t (.tup [.str "soon", .str "lately"]) = H7 at s8 e8 ⊢
    refine in_strs (ns := soonL) (.inr (SqT.of e8)) ⟨_, rfl, iteD (fun c => ?_) fun c => ?_⟩
    · refine ⟨_, rfl, _, rfl, _, rfl, p, l, 2, rfl, ⟨by decide, by decide⟩, d5.same s8, fun d H8 g0 g1 k8 d8 => ?_⟩
      refine ⟨_, _, rfl, rfl, by show 3 ≤ sizeLine; decide, fun u hu => ?_⟩
      exact q _ ⟨wd, [.inl (i : Nat), .inl (1 + d)]⟩ _ (((kk5.trans (Kept2.same s8)).trans k8).trans (Kept2.same (same_new hu _))) (d8.same (same_new hu _)) ⟨u, rfl, upd_same⟩ (rk_soon c (by omega) (by omega)) (sm_ints (is := [(i : Nat), 1 + d]) (all2 (by omega) (by omega)) (soon_nr c))
    · refine ⟨_, rfl, _, rfl, _, rfl, by show 3 ≤ sizeLine; decide, fun u hu => ?_⟩
      exact q _ ⟨wd, [.inl (i : Nat), .inl (j : Nat)]⟩ _ ((kk5.trans (Kept2.same s8)).trans (Kept2.same (same_new hu _))) ((d5.same s8).same (same_new hu _)) ⟨u, rfl, upd_same⟩ (rk_two ((hw.resolve_left hno).resolve_left c) (by omega) (by omega)) (sm_ints (is := [(i : Nat), (j : Nat)]) (all2 (by omega) (by omega)) (two_nr ((hw.resolve_left hno).resolve_left c)))
end
end K3

namespace K3
open PySem PySem.Spec PyProof.Rows L2 Hb St Sq Ow En Zp RZ Rd StX
local macro_rules | `(tactic| walk_at "wp") => `(tactic| try simp only [cxOf, tKGet, gName, rIxT, rIxL, tOr, tAnd, tB, tCB, tAsg, tTup, tLst, tSl, tNoPart, tPart, tDrop, tBM, tBM0, tPar, tAug, tIf, tYes, tCKw, tSeq, tRet, tRetN, tTest, tOp, tUn, tVar, tC, tCall, tCons, tNil, tIfS, tNext, tAndV, tOrV, tNot, tNotV, rEq, rNe, rI0, rI, L2.start, List.map_cons, List.map_nil, List.cons_append, List.nil_append, List.length_cons, List.length_nil, List.append_nil, Nat.reduceAdd, Nat.reduceSub, Nat.zero_add, List.replicate, List.getElem?_cons_zero, List.getElem?_cons_succ, List.set_cons_zero, List.set_cons_succ, Option.some.injEq, exists_eq_left', exists_eq_left, V.bl.injEq, V.str.injEq, V.int.injEq, V.ref.injEq, V.ty.injEq, List.cons.injEq, and_true, true_and, exists_and_left])
/-! ### good trees -/
def leaf : PyData → Bool
  | .int _ => true
  | .str s => PyData.strOk s
  | _ => false
mutual
def gt : PyData → Bool
  | .tuple (.str w :: xs) => PyData.strOk w && decide (xs.length ≤ 5) && gtA xs
  | _ => false
def gtA : List PyData → Bool
  | [] => true
  | x :: xs => (leaf x || gt x) && gtA xs
end
theorem leaf_pu : ∀ {d : PyData}, leaf d = true → pu d = true
  | .int _, _ => by simp [pu]
  | .str s, h => by rw [pu]; exact h
  | .tuple _, h => by simp [leaf] at h
  | .none, h => by simp [leaf] at h
  | .bool _, h => by simp [leaf] at h
  | .list _, h => by simp [leaf] at h
  | .dict _, h => by simp [leaf] at h
theorem gtA_iff : ∀ {ds : List PyData}, gtA ds = true ↔ ∀ d ∈ ds, leaf d = true ∨ gt d = true
  | [] => by simp [gtA]
  | d :: ds => by rw [gtA, Bool.and_eq_true, Bool.or_eq_true, gtA_iff]; simp
theorem gt_form : ∀ {d : PyData}, gt d = true → ∃ w xs, d = .tuple (.str w :: xs) ∧ PyData.strOk w = true ∧ gtA xs = true ∧ xs.length ≤ 5
  | .tuple (.str w :: xs), h => by
    obtain ⟨⟨h1, h3⟩, h2⟩ : (PyData.strOk w = true ∧ xs.length ≤ 5) ∧ gtA xs = true := by simpa [gt] using h
    exact ⟨w, xs, rfl, h1, h2, h3⟩
  | .tuple [], h => by simp [gt] at h
  | .tuple (.int _ :: _), h => by simp [gt] at h
  | .tuple (.tuple _ :: _), h => by simp [gt] at h
  | .tuple (.none :: _), h => by simp [gt] at h
  | .tuple (.bool _ :: _), h => by simp [gt] at h
  | .tuple (.list _ :: _), h => by simp [gt] at h
  | .tuple (.dict _ :: _), h => by simp [gt] at h
  | .int _, h => by simp [gt] at h
  | .str _, h => by simp [gt] at h
  | .none, h => by simp [gt] at h
  | .bool _, h => by simp [gt] at h
  | .list _, h => by simp [gt] at h
  | .dict _, h => by simp [gt] at h
theorem gt_pu : ∀ (n : Nat) {d : PyData}, d.depth ≤ n → gt d = true → pu d = true
  | 0, d, hd, h => by
    obtain ⟨w, xs, rfl, _⟩ := gt_form h
    simp only [PyData.depth] at hd
    omega
  | n + 1, d, hd, h => by
    obtain ⟨w, xs, rfl, h1, h2, _⟩ := gt_form h
    rw [pu, puA, puA_iff.mpr, Bool.and_true]
    · rw [pu]; exact h1
    · intro e he
      rcases gtA_iff.mp h2 e he with k | k
      · exact leaf_pu k
      · refine gt_pu n ?_ k
        have : ∀ {l : List PyData} {e : PyData}, e ∈ l → e.depth ≤ PyData.depthAll l := by
          intro l
          induction l with
          | nil => intro e he; cases he
          | cons x l ih =>
            intro e he
            simp only [PyData.depthAll]
            rcases List.mem_cons.mp he with z | he
            · subst z; omega
            · have := ih he; omega
        have z := this (List.mem_cons_of_mem (.str w) he)
        simp only [PyData.depth] at hd
        omega
theorem depth_mem {l : List PyData} {e : PyData} (he : e ∈ l) : e.depth ≤ PyData.depthAll l := by
  induction l with
  | nil => cases he
  | cons x l ih =>
    simp only [PyData.depthAll]
    rcases List.mem_cons.mp he with z | he
    · subst z; omega
    · have := ih he; omega
theorem depth_kid {n : Nat} {w : Str} {xs : List PyData} {e : PyData} (h : (PyData.tuple (.str w :: xs)).depth ≤ n + 1) (he : e ∈ xs) : e.depth ≤ n := by
  have z := depth_mem (List.mem_cons_of_mem (.str w) he)
  simp only [PyData.depth] at h
  omega
theorem leaf_kD {x : L2.Key} (h : ∀ y : Str, x = .inr y → PyData.strOk y = true) : leaf (kD x) = true := by
  cases x with
  | inl i => rfl
  | inr y => exact h y rfl
theorem gt_T {F : Nat → PyData} {r : Rw} (h : PuR r) (k : ∀ a ∈ rargs r, gt (F a) = true) : gt (T F r) = true := by
  unfold T
  have hl : ((prt r).map fun p => if isR p.1 then F (nat p.2) else kD p.2).length ≤ 5 := by
    have := frm_len r.w
    unfold prt
    rw [List.length_map, List.length_zip]
    omega
  rw [gt, h.1, decide_eq_true hl, Bool.true_and, Bool.true_and, gtA_iff]
  intro d hd
  obtain ⟨p, hp, rfl⟩ := List.mem_map.mp hd
  by_cases q : isR p.1 = true
  · rw [if_pos q]; exact .inr (k _ (mem_rargs hp q))
  · rw [if_neg q]
    exact .inl (leaf_kD fun y e => h.2 y (e ▸ prt_mem hp))
theorem trs_gt {rows : List Rw} (h : G rows) : ∀ t ∈ trs rows, gt t = true := by
  revert h
  refine rev_ind (P := fun rows => G rows → ∀ t ∈ trs rows, gt t = true) (fun _ t ht => by cases ht) (fun l x ih h t ht => ?_) rows
  rw [trs_snoc] at ht
  rcases List.mem_append.mp ht with ht | ht
  · exact ih h.left t ht
  · obtain rfl := List.mem_singleton.mp ht
    refine gt_T h.last fun a ha => ?_
    have := rargs_lt h.ok.last ha
    rw [getD_lt (by rw [trs_len]; exact this)]
    exact ih h.left _ (List.getElem_mem _)
/-! ### values of trees -/
section
variable {K : PySem.W.Frag} {H H' : Hp}
mutual
theorem dp_fix (f : Fix H H') : ∀ (d : PyData) (v : V), pu d = true → Dp K H v d → Dp K H' v d
  | .int _, _, _, h => by cases h; exact .int _
  | .str _, _, _, h => by cases h; exact .str _
  | .tuple ds, _, p, h => by
    cases h with
    | tup q k => exact .tup (tupFix f q) (dpA_fix f ds _ (by simpa [pu] using p) k)
  | .none, _, p, _ => by simp [pu] at p
  | .bool _, _, p, _ => by simp [pu] at p
  | .list _, _, p, _ => by simp [pu] at p
  | .dict _, _, p, _ => by simp [pu] at p
theorem dpA_fix (f : Fix H H') : ∀ (ds : List PyData) (vs : List V), puA ds = true → DpAll K H vs ds → DpAll K H' vs ds
  | [], _, _, h => by cases h; exact .nil
  | d :: ds, _, p, h => by
    obtain ⟨p1, p2⟩ : pu d = true ∧ puA ds = true := by simpa [puA] using p
    cases h with
    | cons a b => exact .cons (dp_fix f d _ p1 a) (dpA_fix f ds _ p2 b)
end
theorem dpA_get {xs : List V} {ds : List PyData} (h : DpAll K H xs ds) : ∀ {i : Nat} {d : PyData}, ds[i]? = some d → ∃ v, xs[i]? = some v ∧ Dp K H v d := by
  induction ds generalizing xs with
  | nil => intro i d e; simp at e
  | cons d0 ds ih =>
    cases h with
    | cons a b =>
      intro i d e
      cases i with
      | zero => cases e; exact ⟨_, rfl, a⟩
      | succ i => exact ih b (i := i) e
theorem dpA_len {xs : List V} {ds : List PyData} (h : DpAll K H xs ds) : xs.length = ds.length := by
  induction ds generalizing xs with
  | nil => cases h; rfl
  | cons d ds ih => cases h with
    | cons a b => simp [ih b]
theorem dpA_getV {xs : List V} {ds : List PyData} (h : DpAll K H xs ds) {i : Nat} {v : V} (e : xs[i]? = some v) : ∃ d, ds[i]? = some d ∧ Dp K H v d := by
  have hi := (List.getElem?_eq_some_iff.mp e).1
  have hd : i < ds.length := by rw [← dpA_len h]; exact hi
  obtain ⟨u, eu, hu⟩ := dpA_get h (List.getElem?_eq_getElem hd)
  rw [e] at eu
  cases eu
  exact ⟨_, List.getElem?_eq_getElem hd, hu⟩
theorem dpA_app {xs ys : List V} {ds es : List PyData} (h : DpAll K H xs ds) (k : DpAll K H ys es) : DpAll K H (xs ++ ys) (ds ++ es) := by
  induction ds generalizing xs with
  | nil => cases h; exact k
  | cons d ds ih => cases h with
    | cons a b => exact .cons a (ih b)
end
/-! ### shapes of rows -/
theorem len1 {α : Type} {l : List α} (h : l.length = 1) : ∃ a, l = [a] := by
  match l, h with
  | [a], _ => exact ⟨a, rfl⟩
theorem len2 {α : Type} {l : List α} (h : l.length = 2) : ∃ a b, l = [a, b] := by
  match l, h with
  | [a, b], _ => exact ⟨a, b, rfl⟩
def atomL : List Str := ["above", "rises", "falls", "rings"]
theorem wd_cases {w : Str} (h : w ∈ wordsL) : w = "not" ∨ w ∈ soonL ∨ w ∈ twoL ∨ w ∈ atomL := by
  simp only [wordsL, soonL, twoL, atomL, List.mem_cons, List.not_mem_nil, or_false] at h ⊢
  rcases h with h | h | h | h | h | h | h | h | h | h | h <;> simp [h]
theorem frm_not : frm "not" = [("row" : Str)] := by decide +kernel
theorem frm_soon {w : Str} (h : w ∈ soonL) : frm w = [("row" : Str), "count"] := by
  simp only [soonL, List.mem_cons, List.not_mem_nil, or_false] at h
  rcases h with rfl | rfl <;> decide +kernel
theorem frm_two {w : Str} (h : w ∈ twoL) : frm w = [("row" : Str), "row"] := by
  simp only [twoL, List.mem_cons, List.not_mem_nil, or_false] at h
  rcases h with rfl | rfl | rfl | rfl <;> decide +kernel
theorem frm_atom {w : Str} (h : w ∈ atomL) : ∀ k ∈ frm w, isR k = false := by
  simp only [atomL, List.mem_cons, List.not_mem_nil, or_false] at h
  rcases h with rfl | rfl | rfl | rfl <;> decide +kernel
theorem row_not {n : Nat} {r : Rw} (h : Rk n r) (e : r.w = "not") : ∃ i : Nat, i < n ∧ r.as = [.inl (i : Nat)] ∧ ∀ F, T F r = .tuple [.str r.w, F i] := by
  have hf : frm r.w = [("row" : Str)] := by rw [e]; exact frm_not
  obtain ⟨a, ha⟩ := len1 (by rw [h.ok.ln, hf]; rfl : r.as.length = 1)
  have hp : prt r = [(("row" : Str), a)] := by unfold prt; rw [hf, ha]; rfl
  obtain ⟨i, ei, hi⟩ := h.ok.ft ("row", a) (by rw [hp]; simp) (by decide +kernel : isR "row" = true)
  have ei : a = .inl (i : Nat) := ei
  subst ei
  refine ⟨i, hi, ha, fun F => ?_⟩
  unfold T
  rw [hp]; rfl
theorem row_soon {n : Nat} {r : Rw} (h : Rk n r) (e : r.w ∈ soonL) : ∃ (i : Nat) (k : Int), i < n ∧ r.as = [.inl (i : Nat), .inl k] ∧ ∀ F, T F r = .tuple [.str r.w, F i, .int k] := by
  have hf := frm_soon e
  obtain ⟨a, b, ha⟩ := len2 (by rw [h.ok.ln, hf]; rfl : r.as.length = 2)
  have hp : prt r = [(("row" : Str), a), ("count", b)] := by unfold prt; rw [hf, ha]; rfl
  obtain ⟨i, ei, hi⟩ := h.ok.ft ("row", a) (by rw [hp]; simp) (by decide +kernel : isR "row" = true)
  have ei : a = .inl (i : Nat) := ei
  subst ei
  obtain ⟨k, ek, _⟩ := (h.ft ("count", b) (by rw [hp]; simp)).ct rfl
  have ek : b = .inl k := ek
  subst ek
  refine ⟨i, k, hi, ha, fun F => ?_⟩
  unfold T
  rw [hp]; rfl
theorem row_two {n : Nat} {r : Rw} (h : Rk n r) (e : r.w ∈ twoL) : ∃ (i j : Nat), i < n ∧ j < n ∧ r.as = [.inl (i : Nat), .inl (j : Nat)] ∧ ∀ F, T F r = .tuple [.str r.w, F i, F j] := by
  have hf := frm_two e
  obtain ⟨a, b, ha⟩ := len2 (by rw [h.ok.ln, hf]; rfl : r.as.length = 2)
  have hp : prt r = [(("row" : Str), a), ("row", b)] := by unfold prt; rw [hf, ha]; rfl
  obtain ⟨i, ei, hi⟩ := h.ok.ft ("row", a) (by rw [hp]; simp) (by decide +kernel : isR "row" = true)
  have ei : a = .inl (i : Nat) := ei
  subst ei
  obtain ⟨j, ej, hj⟩ := h.ok.ft ("row", b) (by rw [hp]; simp) (by decide +kernel : isR "row" = true)
  have ej : b = .inl (j : Nat) := ej
  subst ej
  refine ⟨i, j, hi, hj, ha, fun F => ?_⟩
  unfold T
  rw [hp]; rfl
theorem row_atom {n : Nat} {r : Rw} (h : Rk n r) (e : r.w ∈ atomL) (F : Nat → PyData) : T F r = rowD r := by
  unfold T rowD
  conv => rhs; rw [← prt_snd h.ok.ln, List.map_map]
  congr 2
  refine List.map_congr_left fun p hp => ?_
  have := frm_atom e p.1 (List.of_mem_zip hp).1
  rw [if_neg (by rw [this]; decide)]
  rfl
section
variable {P : Program} {w : World} {K : PySem.W.Frag} {mg : Str → Option Value} {base : Heap}
/-! ### _law_trees -/
abbrev s__law_trees : Stmt := top 35
theorem sc__law_trees : FnScope ["rows", "found", "row"] ["rows"] (defScope s__law_trees) := ⟨rfl, rfl, rfl, by decide +kernel, rfl, by decide +kernel, by decide +kernel⟩
def spTrees (K : PySem.W.Frag) : Sp := fun vs H Q _ => ∃ (a : Addr) (its : List V) (rows : List Rw), vs = [.ref a] ∧ (H a = some (.lst its) ∨ H a = some (.tup its)) ∧ All2 (RowH K H) its rows ∧ RkL rows ∧ rows.length ≤ 100 ∧ ∀ p ys H', H p = none → Same H H' → H' p = some (.lst ys) → DpAll K H' ys (trs rows) → Q (.ref p) H'
theorem ok_trees {f : Addr} {fd : FuncData} (F : Fun K "_law_trees" "_law_trees" s__law_trees f fd)  : FnOk P w K mg base CX0 1 f fd ["rows"] (spTrees K) := by
  refine F.ok sc__law_trees (fun vs H Q E h => ?_) (fun cdv A outer s H vs Q E hr h => ?_)
  · obtain ⟨_, _, _, rfl, _⟩ := h
    rfl
  · obtain ⟨a, its, rows, rfl, ha, hR, hk, hl, q⟩ := h
    refine ⟨_, (pss_cons (ps_set (i := 1) sc__law_trees.nd rfl (Or.inl rfl) (pe_lst pa_nil))
    (Evl.pss_cut (ps_for PassesOwn.never rfl (pi_seq (pv 0)) (pg_name (i := 2) sc__law_trees.nd rfl (Or.inl rfl))
      (pss_one (ps_if (pt_cmpR op_eq (pe_ix ix_tup (pv 2) pe_int (fun _ _ => rfl)) pe_str (nomark _)) (pss_one (ps_expr (pe_bm PySem.F.plainAttrs_list PySem.F.slot_list_append PySem.F.type_list_append mt_append (pv 1) (pa_cons (pe_tup (pa_cons (pe_ix ix_tup (pv 2) pe_int (fun _ _ => rfl)) (pa_cons (pe_ix ix_list (pv 1) (pe_ix ix_tup (pv 2) pe_int (fun _ _ => rfl)) (fun _ _ => rfl)) pa_nil))) pa_nil)))) (pss_one (ps_if (pt_cmpR op_in_seq (pe_ix ix_tup (pv 2) pe_int (fun _ _ => rfl)) (pe_tup (pa_cons pe_str (pa_cons pe_str pa_nil))) rfl) (pss_one (ps_expr (pe_bm PySem.F.plainAttrs_list PySem.F.slot_list_append PySem.F.type_list_append mt_append (pv 1) (pa_cons (pe_tup (pa_cons (pe_ix ix_tup (pv 2) pe_int (fun _ _ => rfl)) (pa_cons (pe_ix ix_list (pv 1) (pe_ix ix_tup (pv 2) pe_int (fun _ _ => rfl)) (fun _ _ => rfl)) (pa_cons (pe_ix ix_tup (pv 2) pe_int (fun _ _ => rfl)) pa_nil)))) pa_nil)))) (pss_one (ps_if (pt_cmpR op_in_seq (pe_ix ix_tup (pv 2) pe_int (fun _ _ => rfl)) (pe_tup (pa_cons pe_str (pa_cons pe_str (pa_cons pe_str (pa_cons pe_str pa_nil))))) rfl) (pss_one (ps_expr (pe_bm PySem.F.plainAttrs_list PySem.F.slot_list_append PySem.F.type_list_append mt_append (pv 1) (pa_cons (pe_tup (pa_cons (pe_ix ix_tup (pv 2) pe_int (fun _ _ => rfl)) (pa_cons (pe_ix ix_list (pv 1) (pe_ix ix_tup (pv 2) pe_int (fun _ _ => rfl)) (fun _ _ => rfl)) (pa_cons (pe_ix ix_list (pv 1) (pe_ix ix_tup (pv 2) pe_int (fun _ _ => rfl)) (fun _ _ => rfl)) pa_nil)))) pa_nil)))) (pss_one (ps_expr (pe_bm PySem.F.plainAttrs_list PySem.F.slot_list_append PySem.F.type_list_append mt_append (pv 1) (pa_cons (pv 2) pa_nil)))))))))))
    (pss_one (ps_ret (pv 1))))), ?_⟩
    refine ⟨by show 0 ≤ sizeLine; decide, fun D hD => ?_⟩
    have s1 := same_new hD (.lst [])
    have e1 : upd H D (.lst []) D = some (.lst []) := upd_same
    generalize upd H D (.lst []) = H1 at s1 e1 ⊢
    have hx : SqX K H1 a its := ha.elim (fun e => SqX.lst (s1 _ _ e)) fun e => .inr (SqT.of (s1 _ _ e))
    refine ⟨fun σ H' => ∃ o ys, σ = [some (.ref a), some (.ref D), o] ∧ Same H H' ∧ H' D = some (.lst ys) ∧ DpAll K H' ys (trs rows), ?_, ?_⟩
    · refine ⟨_, rfl, a, its, rfl, hx, fun J S W k => ?_⟩
      refine for_sq W (fun i σ H' => ∃ o ys, σ = [some (.ref a), some (.ref D), o] ∧ Same H H' ∧ H' D = some (.lst ys) ∧ DpAll K H' ys (trs (rows.take i))) ⟨none, [], rfl, s1, e1, .nil⟩ (fun i σ H' p => ?_) ?_ ?_
      · obtain ⟨_, _, _, s, _⟩ := p
        refine W.keep (fun o e => ?_) k
        rcases ha with h | h
        · rw [s1 _ _ h] at e; cases e; exact s _ _ h
        · rw [s1 _ _ h] at e; cases e; exact s _ _ h
      · rintro i σ H2 y ey ⟨o, ys, rfl, s2, eD, dpa⟩
        obtain ⟨d, ed, hd⟩ := hR.get ey
        have rk := hk i d ed
        have il : i < rows.length := (List.getElem?_eq_some_iff.mp ed).1
        have tl : (rows.take i).length = i := by rw [List.length_take]; omega
        have rki : RkL (rows.take i) := RkL.left (b := rows.drop i) (by rw [List.take_append_drop]; exact hk)
        have hpu := trs_pu rki.g
        obtain ⟨ya, rfl, hd0⟩ := hd.same s2
        have yl : ys.length = i := by rw [dpA_len dpa, trs_len, tl]
        have hF : ∀ j, j < i → ∃ v, ys[j]? = some v ∧ Dp K H2 v ((trs (rows.take i)).getD j .none) := fun j hj => by
          have hj' : j < (trs (rows.take i)).length := by rw [trs_len, tl]; exact hj
          obtain ⟨v, ev, hv⟩ := dpA_get dpa (List.getElem?_eq_getElem hj')
          exact ⟨v, ev, by rw [getD_lt hj']; exact hv⟩
        have gpu : ∀ j, j < i → pu ((trs (rows.take i)).getD j .none) = true := fun j hj => by
          have hj' : j < (trs (rows.take i)).length := by rw [trs_len, tl]; exact hj
          rw [getD_lt hj']
          exact hpu _ (List.getElem_mem _)
        have ht : trs (rows.take (i + 1)) = trs (rows.take i) ++ [T (fun a => (trs (rows.take i)).getD a .none) d] := by rw [take_snoc ed, trs_snoc]
        have fin : ∀ {H3 : Hp} {v : V}, Same H2 H3 → Dp K H3 v (T (fun a => (trs (rows.take i)).getD a .none) d) → ∃ o ys', [some (V.ref a), some (V.ref D), some (V.ref ya)] = [some (.ref a), some (.ref D), o] ∧ Same H (upd H3 D (.lst (ys ++ [v]))) ∧ upd H3 D (.lst (ys ++ [v])) D = some (.lst ys') ∧ DpAll K (upd H3 D (.lst (ys ++ [v]))) ys' (trs (rows.take (i + 1))) := fun {H3 v} s3 hv => by
          have f3 : Fix H3 (upd H3 D (.lst (ys ++ [v]))) := Fix.lst (s3 _ _ eD)
          have hgt := trs_pu (RkL.g (RkL.left (b := rows.drop (i + 1)) (by rw [List.take_append_drop]; exact hk) : RkL (rows.take (i + 1))))
          refine ⟨_, _, rfl, fun b o eb => ?_, upd_same, ?_⟩
          · rw [upd_ne (ne_of_none eb hD)]; exact s3 _ _ (s2 _ _ eb)
          · rw [ht]
            rw [ht] at hgt
            refine dpA_app (dpA_fix ((Fix.of s3).trans f3) _ _ (puA_iff.mpr hpu) dpa) (.cons (dp_fix f3 _ _ (hgt _ (by simp)) hv) .nil)
        refine ⟨_, rfl, ya, _, _, _, rfl, rfl, hd0, at0, rfl, _, rfl, iteD (fun e => ?_) fun e => ?_⟩
        · injection e with e
          obtain ⟨j, hj, eas, hT⟩ := row_not rk e
          obtain ⟨v, ev, hv⟩ := hF j hj
          unfold rowV at hd0
          rw [eas] at hd0
          refine ⟨_, rfl, .inl ⟨rfl, _, SqL.of eD⟩, _, rfl, ya, _, _, _, rfl, rfl, hd0, at0, _, rfl, _, rfl, ya, _, _, _, rfl, rfl, hd0, at1, D, _, _, _, rfl, rfl, SqL.of eD, at_nat ev, by show 2 ≤ sizeLine; decide, fun t hn => ?_⟩
          have s3 := same_new hn (.tup [.str d.w, v])
          refine ⟨D, ys, _, rfl, rfl, s3 _ _ eD, by rw [yl, sizeLine_eq]; omega, fin s3 ?_⟩
          rw [hT]
          exact .tup (SqT.of upd_same) (.cons (.str _) (.cons (dp_fix (Fix.of s3) _ _ (gpu j hj) hv) .nil))
        refine ⟨_, rfl, ya, _, _, _, rfl, rfl, hd0, at0, by show 2 ≤ sizeLine; decide, fun t0 ht0 => ?_⟩
        have s3 := same_new ht0 (.tup [.str "soon", .str "lately"])
        have e3 : upd H2 t0 (.tup [.str "soon", .str "lately"]) t0 = some (.tup [.str "soon", .str "lately"]) := upd_same
        generalize upd H2 t0 (.tup [.str "soon", .str "lately"]) = H3 at s3 e3 ⊢
        have hd3 := tupFix (Fix.of s3) hd0
        have eD3 := s3 _ _ eD
        refine in_strs (ns := soonL) (.inr (SqT.of e3)) ⟨_, rfl, iteD (fun c => ?_) fun c => ?_⟩
        · obtain ⟨j, k, hj, eas, hT⟩ := row_soon rk c
          obtain ⟨v, ev, hv⟩ := hF j hj
          unfold rowV at hd3
          rw [eas] at hd3
          refine ⟨_, rfl, .inl ⟨rfl, _, SqL.of eD3⟩, _, rfl, ya, _, _, _, rfl, rfl, hd3, at0, _, rfl, _, rfl, ya, _, _, _, rfl, rfl, hd3, at1, D, _, _, _, rfl, rfl, SqL.of eD3, at_nat ev, _, rfl, ya, _, _, _, rfl, rfl, hd3, at2, by show 3 ≤ sizeLine; decide, fun t hn => ?_⟩
          have s4 := s3.trans (same_new hn (.tup [.str d.w, v, .int k]))
          refine ⟨D, ys, _, rfl, rfl, s4 _ _ eD, by rw [yl, sizeLine_eq]; omega, fin s4 ?_⟩
          rw [hT]
          exact .tup (SqT.of upd_same) (.cons (.str _) (.cons (dp_fix (Fix.of s4) _ _ (gpu j hj) hv) (.cons (.int _) .nil)))
        refine ⟨_, rfl, ya, _, _, _, rfl, rfl, hd3, at0, by show 4 ≤ sizeLine; decide, fun t1 ht1 => ?_⟩
        have s4 := same_new ht1 (.tup [.str "and", .str "or", .str "until", .str "since"])
        have e4 : upd H3 t1 (.tup [.str "and", .str "or", .str "until", .str "since"]) t1 = some (.tup [.str "and", .str "or", .str "until", .str "since"]) := upd_same
        generalize upd H3 t1 (.tup [.str "and", .str "or", .str "until", .str "since"]) = H4 at s4 e4 ⊢
        have hd4 := tupFix (Fix.of s4) hd3
        have eD4 := s4 _ _ eD3
        replace s4 := s3.trans s4
        refine in_strs (ns := twoL) (.inr (SqT.of e4)) ⟨_, rfl, iteD (fun c2 => ?_) fun c2 => ?_⟩
        · obtain ⟨j, k, hj, hkk, eas, hT⟩ := row_two rk c2
          obtain ⟨v, ev, hv⟩ := hF j hj
          obtain ⟨u, eu, hu⟩ := hF k hkk
          unfold rowV at hd4
          rw [eas] at hd4
          refine ⟨_, rfl, .inl ⟨rfl, _, SqL.of eD4⟩, _, rfl, ya, _, _, _, rfl, rfl, hd4, at0, _, rfl, _, rfl, ya, _, _, _, rfl, rfl, hd4, at1, D, _, _, _, rfl, rfl, SqL.of eD4, at_nat ev, _, rfl, _, rfl, ya, _, _, _, rfl, rfl, hd4, at2, D, _, _, _, rfl, rfl, SqL.of eD4, at_nat eu, by show 3 ≤ sizeLine; decide, fun t hn => ?_⟩
          have s5 := s4.trans (same_new hn (.tup [.str d.w, v, u]))
          refine ⟨D, ys, _, rfl, rfl, s5 _ _ eD, by rw [yl, sizeLine_eq]; omega, fin s5 ?_⟩
          rw [hT]
          exact .tup (SqT.of upd_same) (.cons (.str _) (.cons (dp_fix (Fix.of s5) _ _ (gpu j hj) hv) (.cons (dp_fix (Fix.of s5) _ _ (gpu k hkk) hu) .nil)))
        · have at_ : d.w ∈ atomL := (((wd_cases rk.wd).resolve_left fun z => e (congrArg V.str z)).resolve_left c).resolve_left c2
          refine ⟨_, rfl, .inl ⟨rfl, _, SqL.of eD4⟩, _, rfl, D, ys, _, rfl, rfl, eD4, by rw [yl, sizeLine_eq]; omega, fin s4 ?_⟩
          rw [row_atom rk at_]
          exact (show RowH K H4 (.ref ya) d from ⟨ya, rfl, hd4⟩).dp
      · rintro σ H2 ⟨o, ys, rfl, s2, eD, dpa⟩
        rw [List.take_of_length_le (by rw [hR.len]; exact Nat.le_refl _)] at dpa
        exact ⟨o, ys, rfl, s2, eD, dpa⟩
    rintro σ H2 ⟨o, ys, rfl, s2, eD, dpa⟩
    exact ⟨_, rfl, q D ys H2 hD s2 eD dpa⟩
end
end K3

namespace K3
open PySem PySem.Spec PyProof.Rows L2 Hb St Sq Ow En Zp RZ Rd StX
local macro_rules | `(tactic| walk_at "wp") => `(tactic| try simp only [cxOf, tKGet, gName, rIxT, rIxL, tOr, tAnd, tB, tCB, tAsg, tTup, tLst, tSl, tNoPart, tPart, tDrop, tBM, tBM0, tPar, tAug, tIf, tYes, tCKw, tSeq, tRet, tRetN, tTest, tOp, tUn, tVar, tC, tCall, tCons, tNil, tIfS, tNext, tAndV, tOrV, tNot, tNotV, rEq, rNe, rI0, rI, L2.start, List.map_cons, List.map_nil, List.cons_append, List.nil_append, List.length_cons, List.length_nil, List.append_nil, Nat.reduceAdd, Nat.reduceSub, Nat.zero_add, List.replicate, List.getElem?_cons_zero, List.getElem?_cons_succ, List.set_cons_zero, List.set_cons_succ, Option.some.injEq, exists_eq_left', exists_eq_left, V.bl.injEq, V.str.injEq, V.int.injEq, V.ref.injEq, V.ty.injEq, List.cons.injEq, and_true, true_and, exists_and_left])
/-! ### readings of parts -/
section
variable {K : PySem.W.Frag} {H : Hp}
theorem shp_of {n : Nat} {d : PyData} (h : gt d = true) (hd : d.depth ≤ n) (hn : n ≤ 60) : SeqAt.shaped d = true := by
  unfold SeqAt.shaped
  rw [pu_can _ (gt_pu n hd h), decide_eq_true (by omega)]; rfl
/-- the walk over a tree's parts -/
theorem dp_tree {v : V} {w : Str} {xs : List PyData} (h : Dp K H v (.tuple (.str w :: xs))) : ∃ a ys, v = .ref a ∧ SqT K H a (.str w :: ys) ∧ DpAll K H ys xs := by
  cases h with
  | tup q k => cases k with
    | cons a b =>
      cases a
      exact ⟨_, _, rfl, q, b⟩
theorem part_tup {v : V} {d : PyData} (h : Dp K H v d) (g : gt d = true) : ∃ t : Value, TyX K H v t ∧ PySem.W.kitOne K t (.type "tuple") = some true := by
  obtain ⟨w, xs, rfl, _⟩ := gt_form g
  obtain ⟨a, ys, rfl, k, _⟩ := dp_tree h
  exact ⟨_, ty_tup k, kit_ty (r := true) (by decide +kernel)⟩
theorem part_leaf {v : V} {d : PyData} (h : Dp K H v d) (g : leaf d = true) : ∃ t : Value, TyX K H v t ∧ PySem.W.kitOne K t (.type "tuple") = some false := by
  cases h with
  | int i => exact ⟨_, .base (.int i), kit_ty (r := false) (by decide +kernel)⟩
  | str x => exact ⟨_, .base (.str x), kit_ty (r := false) (by decide +kernel)⟩
  | non => simp [leaf] at g
  | bl b => simp [leaf] at g
  | lst _ _ => simp [leaf] at g
  | tup _ _ => simp [leaf] at g
theorem gtA_pu {xs : List PyData} (h : gtA xs = true) : puA xs = true := puA_iff.mpr fun d hd => (gtA_iff.mp h d hd).elim leaf_pu fun g => gt_pu _ (Nat.le_refl _) g
theorem leaf_gt {d : PyData} (h : leaf d = true) : gt d = false ∧ (∀ t, wi t d = false) ∧ dp d = 0 ∧ ws d = [] := by
  cases d with
  | int i => exact ⟨by simp [gt], fun t => by simp [wi], by simp [dp], by simp [ws]⟩
  | str s => exact ⟨by simp [gt], fun t => by simp [wi], by simp [dp], by simp [ws]⟩
  | none => simp [leaf] at h
  | bool b => simp [leaf] at h
  | list l => simp [leaf] at h
  | dict l => simp [leaf] at h
  | tuple l => simp [leaf] at h
theorem wiA_any (t : PyData) : ∀ xs : List PyData, wiA t xs = xs.any fun d => wi t d
  | [] => by simp [wiA]
  | x :: xs => by rw [wiA, wiA_any t xs, List.any_cons]
theorem fil_nil {α : Type} (p : α → Bool) (l : List α) : (!decide ((l.filter p).map (fun _ => (1 : Int)) = [])) = l.any p := by
  rw [Bool.eq_iff_iff]
  simp
end
theorem rd_tailP {K : PySem.W.Frag} {H : Hp} {σ : L2.St} {a : Addr} {v : V} {xs : List V} {G : VK} (h : SqT K H a (v :: xs)) (q : ∀ p H', H p = none → Same H H' → H' p = some (.tup xs) → G (.ref p) H') : tNoPart σ H fun u H3 => rSlA K (.ref a) (some 1) u H3 G := rd_tail h q
theorem cut1' {v : V} {xs : List V} : cutV (v :: xs) (some 1) none = xs := cut1
section
variable {P : Program} {w : World} {K : PySem.W.Frag} {mg : Str → Option Value} {base : Heap}
/-! ### _law_is_within -/
abbrev s__law_is_within : Stmt := top 36
theorem sc__law_is_within : FnScope ["tree", "whole", "part"] ["tree", "whole"] (defScope s__law_is_within) := ⟨rfl, rfl, rfl, by decide +kernel, rfl, by decide +kernel, by decide +kernel⟩
def spWithin (K : PySem.W.Frag) (n : Nat) : Sp := fun vs H Q _ => ∃ (v u : V) (t d : PyData), vs = [v, u] ∧ Dp K H v t ∧ Dp K H u d ∧ gt t = true ∧ gt d = true ∧ t.depth ≤ 50 ∧ d.depth ≤ n ∧ n ≤ 50 ∧ ∀ H', Same H H' → Q (.bl (wi t d)) H'
theorem ok_within {f : Addr} {fd : FuncData} (F : Fun K "_law_is_within" "_law_is_within" s__law_is_within f fd) {m n : Nat} (C__law_is_within : Cl P w K mg base "_law_is_within" ["tree", "whole"] [] m (spWithin K n)) (n_isinstance : mg "isinstance" = none) (n_tuple : mg "tuple" = none) : FnOk P w K mg base CX0 (m + 1) f fd ["tree", "whole"] (spWithin K (n + 1)) := by
  refine F.ok sc__law_is_within (fun vs H Q E h => ?_) (fun cdv A outer s H vs Q E hr h => ?_)
  · obtain ⟨_, _, _, _, rfl, _⟩ := h
    rfl
  · obtain ⟨v, u, t, d, rfl, hv, hu, gtt, gtd, dt, dd, n50, q⟩ := h
    refine ⟨_, (Evl.pss_cut (ps_if (pt_cmpR (op_eqD hr.units) (pv 0) (pv 1) (nomark _)) (pss_one (ps_ret pe_bl)) pss_nil)
    (pss_one (ps_ret (pe_cmpR (op_neD hr.units) (pe_lc (own := [("part", 2)]) (g := gName 2) rfl sc__law_is_within.nd (pi_seq (pe_slice (r := rSlA K) sl_tupA (pv 1) (po_some pe_int) po_none)) (blkOk_by (N := ["tree", "whole", "part"]) (sc := defScope s__law_is_within) (by decide +kernel)) (fun _ _ _ _ _ => pg_name (i := 2) sc__law_is_within.nd rfl (Or.inl rfl)) (fun _ _ _ _ _ => pts_one (PW.pt (pw_and (pt_val (pe_callB (r := rIsi K) call_isi (by rfl) n_isinstance (by decide +kernel) (pa_cons (pv 2) (pa_cons (pe_bltn (v := .ty "tuple") (by rfl) n_tuple (by decide +kernel) rfl) pa_nil)))) (pw_and1 (pt_val (pe_use C__law_is_within (hr.mono (Nat.le_refl _)) rfl (pa_cons (pv 0) (pa_cons (pv 2) pa_nil)))))))) (fun _ _ _ _ _ => pe_int)) (pe_lst pa_nil) (nomark _))))), ?_⟩
    have e0 := pu_eqv t d (gt_pu _ dt gtt) (gt_pu _ dd gtd)
    obtain ⟨wd, xs, rfl, hw, gx, xl⟩ := gt_form gtd
    obtain ⟨a, ys, rfl, hs, hys⟩ := dp_tree hu
    refine ⟨fun σ H' => σ = [some v, some (.ref a), none] ∧ H' = H ∧ PyData.eqv t (.tuple (.str wd :: xs)) = false, ?_, ?_⟩
    · refine ⟨_, rfl, _, rfl, t, _, hv, hu, shp_of gtt dt (by omega), shp_of gtd dd (by omega), _, rfl, ?_⟩
      cases he : PyData.eqv t (.tuple (.str wd :: xs)) with
      | true =>
        refine iteT (q H (Same.refl _) |> fun z => ?_)
        have : wi t (.tuple (.str wd :: xs)) = true := by simp [wi, he]
        rw [this] at z
        exact z
      | false => exact iteF ⟨rfl, rfl, rfl⟩
    rintro σ H1 ⟨rfl, rfl, he⟩
    have q : ∀ H', Same H1 H' → Q (.bl (xs.any fun d => wi t d)) H' := fun H' s => by
      have := q H' s
      rw [show wi t (.tuple (.str wd :: xs)) = xs.any fun d => wi t d by rw [wi, he, Bool.false_or, ← wiA_any]; simp [wiA, wi]] at this
      exact this
    refine ⟨_, rfl, 1, rfl, ?_⟩
    refine rd_tailP hs fun p H2 hp s2 e2 => ?_
    have hys2 := dpA_fix (Fix.of s2) _ _ (gtA_pu gx) hys
    refine ⟨p, ys, rfl, .inr (SqT.of e2), fun J S W k D hD => ?_⟩
    refine lc_mf (ds := xs) W (fun d => wi t d) (fun _ y _ => y = .int 1) k hD (dpA_len hys) (fun i x z H4 ex ez s4 m => ?_) (fun H4 zs s4 e al => ?_)
    · obtain ⟨z', ez', hz⟩ := dpA_getV hys2 ex
      obtain rfl : z' = z := Option.some.inj (ez'.symm.trans ez)
      have hz4 := dp_fix (Fix.of s4) _ _ (puA_iff.mp (gtA_pu gx) _ (at_mem ez)) hz
      have hv4 := dp_fix (Fix.of (s2.trans s4)) _ _ (gt_pu _ dt gtt) hv
      rcases gtA_iff.mp gx z' (at_mem ez) with hl | hg
      · obtain ⟨ty, h1, h2⟩ := part_leaf hz4 hl
        refine ⟨rfl, _, rfl, _, _, ty, _, false, rfl, .ty "tuple", h1, h2, _, rfl, ?_⟩
        exact iteF (iteF (mf_no m (fun _ _ _ _ _ h => h) ez (Same.refl _) ((leaf_gt hl).2.1 t)))
      · obtain ⟨ty, h1, h2⟩ := part_tup hz4 hg
        refine ⟨rfl, _, rfl, _, _, ty, _, true, rfl, .ty "tuple", h1, h2, _, rfl, ?_⟩
        refine iteT ⟨_, rfl, _, rfl, v, x, t, z', rfl, hv4, hz4, gtt, hg, dt, depth_kid dd (at_mem ez), by omega, fun H5 s5 => ⟨_, rfl, ?_⟩⟩
        cases hw : wi t z' with
        | true => exact iteT (mf_yes m hD (fun _ _ _ _ _ h => h) ez (by omega) s5 hw rfl)
        | false => exact iteF (mf_no m (fun _ _ _ _ _ h => h) ez s5 hw)
    · refine ⟨by show 0 ≤ sizeLine; decide, fun t0 ht0 => ?_⟩
      have s5 := same_new ht0 (.lst [])
      have ez : zs = ((xs.filter fun d => wi t d).map fun _ => (1 : Int)).map V.int := by
        rw [List.map_map]
        exact al.map_eq fun _ _ h => h
      refine rd_neNil (SqL.of (ez ▸ s5 _ _ e)) (SqL.of upd_same) ?_
      rw [fil_nil]
      exact q _ ((s2.trans s4).trans s5)
/-! ### _law_deep -/
abbrev s__law_deep : Stmt := top 37
theorem sc__law_deep : FnScope ["tree", "most", "part"] ["tree"] (defScope s__law_deep) := ⟨rfl, rfl, rfl, by decide +kernel, rfl, by decide +kernel, by decide +kernel⟩
def spDeep (K : PySem.W.Frag) (n : Nat) : Sp := fun vs H Q _ => ∃ (v : V) (d : PyData), vs = [v] ∧ Dp K H v d ∧ gt d = true ∧ d.depth ≤ n ∧ ∀ H', Same H H' → Q (.int (dp d : Nat)) H'
theorem dpA_snoc (l : List PyData) (d : PyData) : dpA (l ++ [d]) = max (dpA l) (dp d) := by
  induction l with
  | nil => simp [dpA]
  | cons x l ih => rw [List.cons_append, dpA, dpA, ih, Nat.max_assoc]
theorem ok_deep {f : Addr} {fd : FuncData} (F : Fun K "_law_deep" "_law_deep" s__law_deep f fd) {m n : Nat} (C__law_deep : Cl P w K mg base "_law_deep" ["tree"] [] m (spDeep K n)) (n_isinstance : mg "isinstance" = none) (n_max : mg "max" = none) (n_tuple : mg "tuple" = none) : FnOk P w K mg base CX0 (m + 1) f fd ["tree"] (spDeep K (n + 1)) := by
  refine F.ok sc__law_deep (fun vs H Q E h => ?_) (fun cdv A outer s H vs Q E hr h => ?_)
  · obtain ⟨_, _, rfl, _⟩ := h
    rfl
  · obtain ⟨v, d, rfl, hv, gtd, dd, q⟩ := h
    refine ⟨_, (pss_cons (ps_set (i := 1) sc__law_deep.nd rfl (Or.inl rfl) pe_int)
    (Evl.pss_cut (ps_for PassesOwn.never rfl (pi_seq (pe_slice (r := rSlA K) sl_tupA (pv 0) (po_some pe_int) po_none)) (pg_name (i := 2) sc__law_deep.nd rfl (Or.inl rfl))
      (pss_one (ps_set (i := 1) sc__law_deep.nd rfl (Or.inl rfl) (pe_callB (call_max2 rfl) (by rfl) n_max PyProof.Rows.boot_max (pa_cons (pv 1) (pa_cons (pe_ifExp (pt_val (pe_callB (r := rIsi K) call_isi (by rfl) n_isinstance (by decide +kernel) (pa_cons (pv 2) (pa_cons (pe_bltn (v := .ty "tuple") (by rfl) n_tuple (by decide +kernel) rfl) pa_nil)))) (pe_use C__law_deep (hr.mono (Nat.le_refl _)) rfl (pa_cons (pv 2) pa_nil)) pe_int) pa_nil))))))
    (pss_one (ps_ret (pe_op op_add (pv 1) (pe_ifExp (pt_cmpR op_in_seq (pe_ix ix_tup (pv 0) pe_int (fun _ _ => rfl)) (pe_tup (pa_cons pe_str (pa_cons pe_str pa_nil))) rfl) pe_int pe_int)))))), ?_⟩
    obtain ⟨wd, xs, rfl, hw, gx, xl⟩ := gt_form gtd
    obtain ⟨a, ys, rfl, hs, hys⟩ := dp_tree hv
    have px := gtA_pu gx
    refine ⟨fun σ H' => ∃ o, σ = [some (.ref a), some (.int (dpA xs : Nat)), o] ∧ Same H H', ?_, ?_⟩
    · refine ⟨_, rfl, 1, rfl, ?_⟩
      refine rd_tailP hs fun p H2 hp s2 e2 => ?_
      refine ⟨p, ys, rfl, .inr (SqT.of e2), fun J S W k => ?_⟩
      refine for_sq W (fun i σ H' => ∃ o, σ = [some (.ref a), some (.int (dpA (xs.take i) : Nat)), o] ∧ Same H2 H') ⟨none, rfl, Same.refl _⟩ (fun i σ H' p => W.keep (fun o e => let ⟨_, _, s⟩ := p; s _ _ e) k) ?_ ?_
      · rintro i σ H3 x ex ⟨o, rfl, s3⟩
        have hys3 := dpA_fix (Fix.of (s2.trans s3)) _ _ px hys
        obtain ⟨z, ez, hz⟩ := dpA_getV hys3 ex
        have fin : ∀ {H' : Hp} {m : Int}, m = (max (dpA (xs.take i)) (dp z) : Nat) → Same H3 H' → (∃ o, [some (V.ref a), some (V.int m), some x] = [some (V.ref a), some (.int (dpA (xs.take (i + 1)) : Nat)), o] ∧ Same H2 H') := fun e s => ⟨some x, by rw [e, take_snoc ez, dpA_snoc], s3.trans s⟩
        rcases gtA_iff.mp gx z (at_mem ez) with hl | hg
        · obtain ⟨ty, h1, h2⟩ := part_leaf hz hl
          refine ⟨_, rfl, _, rfl, _, _, ty, _, false, rfl, .ty "tuple", h1, h2, _, rfl, iteF ⟨_, _, rfl, fin ?_ (Same.refl _)⟩⟩
          rw [(leaf_gt hl).2.2.1]
          split <;> omega
        · obtain ⟨ty, h1, h2⟩ := part_tup hz hg
          refine ⟨_, rfl, _, rfl, _, _, ty, _, true, rfl, .ty "tuple", h1, h2, _, rfl, ?_⟩
          refine iteT ⟨_, rfl, x, z, rfl, hz, hg, depth_kid dd (at_mem ez), fun H4 s4 => ⟨_, _, rfl, fin ?_ s4⟩⟩
          split <;> omega
      · rintro σ H3 ⟨o, rfl, s3⟩
        rw [List.take_of_length_le (by rw [dpA_len hys]; exact Nat.le_refl _)]
        exact ⟨o, rfl, s2.trans s3⟩
    rintro σ H2 ⟨o, rfl, s2⟩
    have hs2 := tupFix (Fix.of s2) hs
    refine ⟨_, rfl, _, rfl, a, _, _, _, rfl, rfl, hs2, at0, by show 2 ≤ sizeLine; decide, fun t ht => ?_⟩
    have s3 := same_new ht (.tup [.str "until", .str "since"])
    refine in_strs (ns := untlL) (.inr (SqT.of upd_same)) ?_
    rw [untl_in]
    have q' := q _ (s2.trans s3)
    rw [show dp (.tuple (.str wd :: xs)) = dpA xs + (if untl wd then 1 else 0) by simp [dp]] at q'
    refine ⟨_, rfl, ?_⟩
    cases hu : untl wd with
    | true =>
      rw [hu] at q'
      exact iteT ⟨_, _, rfl, rfl, q'⟩
    | false =>
      rw [hu] at q'
      exact iteF ⟨_, _, rfl, rfl, q'⟩
/-! ### _law_words -/
abbrev s__law_words : Stmt := top 38
theorem sc__law_words : FnScope ["tree", "found", "part"] ["tree", "found"] (defScope s__law_words) := ⟨rfl, rfl, rfl, by decide +kernel, rfl, by decide +kernel, by decide +kernel⟩
def spWords (K : PySem.W.Frag) (n : Nat) : Sp := fun vs H Q _ => ∃ (v : V) (d : PyData) (fl : Addr) (xs : List V), vs = [v, .ref fl] ∧ Dp K H v d ∧ gt d = true ∧ d.depth ≤ n ∧ H fl = some (.lst xs) ∧ xs.length + (ws d).length ≤ 1000 ∧ ∀ H', Kept fl H H' → H' fl = some (.lst (xs ++ (ws d).map V.str)) → Q (.ref fl) H'
theorem wsA_snoc (l : List PyData) (d : PyData) : wsA (l ++ [d]) = wsA l ++ ws d := by
  induction l with
  | nil => simp [wsA]
  | cons x l ih => rw [List.cons_append, wsA, wsA, ih, List.append_assoc]
theorem wsA_take (l : List PyData) (i : Nat) : (wsA (l.take i)).length ≤ (wsA l).length := by
  induction l generalizing i with
  | nil => simp
  | cons x l ih =>
    cases i with
    | zero => simp [wsA]
    | succ i =>
      rw [List.take_succ_cons, wsA, wsA, List.length_append, List.length_append]
      have := ih i
      omega
theorem ok_words {f : Addr} {fd : FuncData} (F : Fun K "_law_words" "_law_words" s__law_words f fd) {m n : Nat} (C__law_words : Cl P w K mg base "_law_words" ["tree", "found"] [] m (spWords K n)) (n_isinstance : mg "isinstance" = none) (n_tuple : mg "tuple" = none) : FnOk P w K mg base CX0 (m + 1) f fd ["tree", "found"] (spWords K (n + 1)) := by
  refine F.ok sc__law_words (fun vs H Q E h => ?_) (fun cdv A outer s H vs Q E hr h => ?_)
  · obtain ⟨_, _, _, _, rfl, _⟩ := h
    rfl
  · obtain ⟨v, d, fl, xs0, rfl, hv, gtd, dd, hf, hl, q⟩ := h
    refine ⟨_, (pss_cons (ps_expr (pe_bm PySem.F.plainAttrs_list PySem.F.slot_list_append PySem.F.type_list_append mt_append (pv 1) (pa_cons (pe_ix ix_tup (pv 0) pe_int (fun _ _ => rfl)) pa_nil)))
    (Evl.pss_cut (ps_for PassesOwn.never rfl (pi_seq (pe_slice (r := rSlA K) sl_tupA (pv 0) (po_some pe_int) po_none)) (pg_name (i := 2) sc__law_words.nd rfl (Or.inl rfl))
      (pss_one (ps_if (pt_val (pe_callB (r := rIsi K) call_isi (by rfl) n_isinstance (by decide +kernel) (pa_cons (pv 2) (pa_cons (pe_bltn (v := .ty "tuple") (by rfl) n_tuple (by decide +kernel) rfl) pa_nil)))) (pss_one (ps_expr (pe_use C__law_words (hr.mono (Nat.le_refl _)) rfl (pa_cons (pv 2) (pa_cons (pv 1) pa_nil))))) pss_nil)))
    (pss_one (ps_ret (pv 1))))), ?_⟩
    obtain ⟨wd, xs, rfl, hw, gx, xl⟩ := gt_form gtd
    obtain ⟨a, ys, rfl, hs, hys⟩ := dp_tree hv
    have px := gtA_pu gx
    have ew : ws (.tuple (.str wd :: xs)) = wd :: wsA xs := by simp [ws]
    rw [ew] at hl q
    have hl : xs0.length + ((wsA xs).length + 1) ≤ 1000 := by simpa using hl
    refine ⟨_, rfl, .inl ⟨rfl, _, SqL.of hf⟩, _, rfl, a, _, _, _, rfl, rfl, hs, at0, fl, xs0, _, rfl, rfl, hf, by rw [sizeLine_eq]; omega, ?_⟩
    have k1 : Kept fl H (upd H fl (.lst (xs0 ++ [.str wd]))) := kept_upd
    have f1 : upd H fl (.lst (xs0 ++ [.str wd])) fl = some (.lst (xs0 ++ [.str wd])) := upd_same
    have x1 : Fix H (upd H fl (.lst (xs0 ++ [.str wd]))) := Fix.lst hf
    generalize upd H fl (.lst (xs0 ++ [.str wd])) = H1 at k1 f1 x1 ⊢
    refine ⟨fun σ H' => ∃ o, σ = [some (.ref a), some (.ref fl), o] ∧ Kept fl H H' ∧ H' fl = some (.lst (xs0 ++ [.str wd] ++ (wsA xs).map V.str)), ?_, ?_⟩
    · refine ⟨_, rfl, 1, rfl, ?_⟩
      refine rd_tailP (tupFix x1 hs) fun p H2 hp s2 e2 => ?_
      have npf : p ≠ fl := (ne_of_none f1 hp).symm
      refine ⟨p, ys, rfl, .inr (SqT.of e2), fun J S W k => ?_⟩
      refine for_sq W (fun i σ H' => ∃ o, σ = [some (.ref a), some (.ref fl), o] ∧ Kept fl H H' ∧ Kept fl H2 H' ∧ Fix H H' ∧ H' fl = some (.lst (xs0 ++ [.str wd] ++ (wsA (xs.take i)).map V.str))) ⟨none, rfl, k1.trans (Hb.Same.kept s2), Kept.refl _ _, x1.trans (Fix.of s2), by rw [s2 _ _ f1]; simp [wsA]⟩ (fun i σ H' p => W.keep (fun o e => let ⟨_, _, _, s, _⟩ := p; s _ _ e npf) k) ?_ ?_
      · rintro i σ H3 x ex ⟨o, rfl, k3, kk3, x3, f3⟩
        have hys3 := dpA_fix x3 _ _ px hys
        obtain ⟨z, ez, hz⟩ := dpA_getV hys3 ex
        have et : wsA (xs.take (i + 1)) = wsA (xs.take i) ++ ws z := by rw [take_snoc ez, wsA_snoc]
        have lt := wsA_take xs (i + 1)
        rw [et, List.length_append] at lt
        rcases gtA_iff.mp gx z (at_mem ez) with hlf | hg
        · obtain ⟨ty, h1, h2⟩ := part_leaf hz hlf
          refine ⟨_, rfl, _, _, ty, _, false, rfl, .ty "tuple", h1, h2, _, rfl, ?_⟩
          exact iteF ⟨some x, rfl, k3, kk3, x3, by rw [et, (leaf_gt hlf).2.2.2, List.append_nil]; exact f3⟩
        · obtain ⟨ty, h1, h2⟩ := part_tup hz hg
          refine ⟨_, rfl, _, _, ty, _, true, rfl, .ty "tuple", h1, h2, _, rfl, ?_⟩
          refine iteT ⟨_, rfl, _, rfl, x, z, fl, _, rfl, hz, hg, depth_kid dd (at_mem ez), f3, by simp; omega, fun H4 k4 f4 => ⟨some x, rfl, k3.trans k4, kk3.trans k4, x3.trans (Fix.kept f3 k4), ?_⟩⟩
          rw [f4, et, List.map_append, List.append_assoc]
      · rintro σ H3 ⟨o, rfl, k3, kk3, x3, f3⟩
        rw [List.take_of_length_le (by rw [dpA_len hys]; exact Nat.le_refl _)] at f3
        exact ⟨o, rfl, k3, f3⟩
    rintro σ H2 ⟨o, rfl, k2, f2⟩
    exact ⟨_, rfl, q H2 k2 (by rw [f2, List.append_assoc]; rfl)⟩
/-! ### all depths -/
theorem depth0 {d : PyData} (g : gt d = true) (h : d.depth ≤ 0) : False := by
  obtain ⟨w, xs, rfl, _⟩ := gt_form g
  simp only [PyData.depth] at h
  omega
theorem rec_within {f : Addr} {fd : FuncData} (F : Fun K "_law_is_within" "_law_is_within" s__law_is_within f fd) (hm : mg "_law_is_within" = some (.ref f)) (hk : PySem.W.keepIn K (.ref f) = true) (hb : Binds K fd ["tree", "whole"] []) (n_isinstance : mg "isinstance" = none) (n_tuple : mg "tuple" = none) :
    ∀ n, FnOk P w K mg base CX0 (n + 1) f fd ["tree", "whole"] (spWithin K n)
  | 0 => by
    refine F.ok sc__law_is_within (fun vs H Q E h => ?_) (fun cdv A outer s H vs Q E hr h => ?_)
    · obtain ⟨_, _, _, _, rfl, _⟩ := h
      rfl
    · obtain ⟨_, _, _, d, _, _, _, _, g, _, dd, _⟩ := h
      exact (depth0 g dd).elim
  | n + 1 => ok_within F ⟨⟨f, fd, [], rec_within F hm hk hb n_isinstance n_tuple n, hm, hk, hb, .nil⟩⟩ n_isinstance n_tuple
theorem rec_deep {f : Addr} {fd : FuncData} (F : Fun K "_law_deep" "_law_deep" s__law_deep f fd) (hm : mg "_law_deep" = some (.ref f)) (hk : PySem.W.keepIn K (.ref f) = true) (hb : Binds K fd ["tree"] []) (n_isinstance : mg "isinstance" = none) (n_max : mg "max" = none) (n_tuple : mg "tuple" = none) :
    ∀ n, FnOk P w K mg base CX0 (n + 1) f fd ["tree"] (spDeep K n)
  | 0 => by
    refine F.ok sc__law_deep (fun vs H Q E h => ?_) (fun cdv A outer s H vs Q E hr h => ?_)
    · obtain ⟨_, _, rfl, _⟩ := h
      rfl
    · obtain ⟨_, d, _, _, g, dd, _⟩ := h
      exact (depth0 g dd).elim
  | n + 1 => ok_deep F ⟨⟨f, fd, [], rec_deep F hm hk hb n_isinstance n_max n_tuple n, hm, hk, hb, .nil⟩⟩ n_isinstance n_max n_tuple
theorem rec_words {f : Addr} {fd : FuncData} (F : Fun K "_law_words" "_law_words" s__law_words f fd) (hm : mg "_law_words" = some (.ref f)) (hk : PySem.W.keepIn K (.ref f) = true) (hb : Binds K fd ["tree", "found"] []) (n_isinstance : mg "isinstance" = none) (n_tuple : mg "tuple" = none) :
    ∀ n, FnOk P w K mg base CX0 (n + 1) f fd ["tree", "found"] (spWords K n)
  | 0 => by
    refine F.ok sc__law_words (fun vs H Q E h => ?_) (fun cdv A outer s H vs Q E hr h => ?_)
    · obtain ⟨_, _, _, _, rfl, _⟩ := h
      rfl
    · obtain ⟨_, d, _, _, _, _, g, dd, _⟩ := h
      exact (depth0 g dd).elim
  | n + 1 => ok_words F ⟨⟨f, fd, [], rec_words F hm hk hb n_isinstance n_tuple n, hm, hk, hb, .nil⟩⟩ n_isinstance n_tuple
end
end K3

namespace K3
open PySem PySem.Spec PyProof.Rows L2 Hb St Sq Ow En Zp RZ Rd StX
local macro_rules | `(tactic| walk_at "wp") => `(tactic| try simp only [cxOf, tKGet, gName, rIxT, rIxL, tOr, tAnd, tB, tCB, tAsg, tTup, tLst, tSl, tNoPart, tPart, tDrop, tBM, tBM0, tPar, tAug, tIf, tYes, tCKw, tSeq, tRet, tRetN, tTest, tOp, tUn, tVar, tC, tCall, tCons, tNil, tIfS, tNext, tAndV, tOrV, tNot, tNotV, rEq, rNe, rI0, rI, L2.start, List.map_cons, List.map_nil, List.cons_append, List.nil_append, List.length_cons, List.length_nil, List.append_nil, Nat.reduceAdd, Nat.reduceSub, Nat.zero_add, List.replicate, List.getElem?_cons_zero, List.getElem?_cons_succ, List.set_cons_zero, List.set_cons_succ, Option.some.injEq, exists_eq_left', exists_eq_left, V.bl.injEq, V.str.injEq, V.int.injEq, V.ref.injEq, V.ty.injEq, List.cons.injEq, and_true, true_and, exists_and_left])
open Gu
/-! ### what repr shows -/
structure Rp (d : PyData) : Prop where
  sh : PyData.showable d = true
  nd : PyData.hasDict d = false
  dp : PyData.depth d < 40
  ln : (PyData.shown d).length ≤ sizeLine
theorem rd_repr {K : PySem.W.Frag} {H : Hp} {Q : VK} {v : V} {d : PyData} (h : Dp K H v d) (r : Rp d) (q : Q (.str (PyData.shown d)) H) : rRepr K [v] H Q := ⟨v, d, rfl, h, r.sh, r.nd, r.dp, r.ln, q⟩
mutual
def sml : PyData → Bool
  | .int i => decide (i.natAbs < 1000)
  | .str s => PyData.strOk s && decide (s.length ≤ 20)
  | .tuple xs => smlA xs
  | _ => false
def smlA : List PyData → Bool
  | [] => true
  | x :: xs => sml x && smlA xs
end
theorem smlA_iff : ∀ {ds : List PyData}, smlA ds = true ↔ ∀ d ∈ ds, sml d = true
  | [] => by simp [smlA]
  | d :: ds => by rw [smlA, Bool.and_eq_true, smlA_iff]; simp
theorem log_small {i : Int} (h : i.natAbs < 1000) : i.natAbs.log2 < 10 := by
  by_cases c : i.natAbs = 0
  · rw [c]; decide
  · exact (Nat.log2_lt c).mpr (by omega)
mutual
theorem sml_all : ∀ d : PyData, sml d = true → PyData.showable d = true ∧ PyData.hasDict d = false ∧ PyData.canLay0 d = true ∧ PyData.intsShort 13 d = true
  | .int i, h => by
    have h : i.natAbs < 1000 := by simpa [sml] using h
    refine ⟨?_, by simp [PyData.hasDict], by simp [PyData.canLay0], ?_⟩
    · simp only [PyData.showable, decide_eq_true_eq]
      have := log_small h
      omega
    · simp only [PyData.intsShort, decide_eq_true_eq]
      exact PyData.shown_int_le (by omega)
  | .str s, h => by
    obtain ⟨h1, h2⟩ : PyData.strOk s = true ∧ s.length ≤ 20 := by simpa [sml] using h
    exact ⟨by simp [PyData.showable], by simp [PyData.hasDict], by simpa [PyData.canLay0] using h1, by simp [PyData.intsShort]⟩
  | .tuple xs, h => by
    obtain ⟨a, b, c, e⟩ := smlA_all xs (by simpa [sml] using h)
    exact ⟨by simpa [PyData.showable] using a, by simpa [PyData.hasDict] using b, by simpa [PyData.canLay0] using c, by simpa [PyData.intsShort] using e⟩
  | .none, h => by simp [sml] at h
  | .bool _, h => by simp [sml] at h
  | .list _, h => by simp [sml] at h
  | .dict _, h => by simp [sml] at h
theorem smlA_all : ∀ ds : List PyData, smlA ds = true → PyData.showableAll ds = true ∧ PyData.hasDictAll ds = false ∧ PyData.canLayAll0 ds = true ∧ PyData.intsShortAll 13 ds = true
  | [], _ => by simp [PyData.showableAll, PyData.hasDictAll, PyData.canLayAll0, PyData.intsShortAll]
  | d :: ds, h => by
    obtain ⟨h1, h2⟩ : sml d = true ∧ smlA ds = true := by simpa [smlA] using h
    obtain ⟨a, b, c, e⟩ := sml_all d h1
    obtain ⟨a2, b2, c2, e2⟩ := smlA_all ds h2
    exact ⟨by simp [PyData.showableAll, a, a2], by simp [PyData.hasDictAll, b, b2], by simp [PyData.canLayAll0, c, c2], by simp [PyData.intsShortAll, e, e2]⟩
end
theorem rp_sml {d : PyData} (h : sml d = true) (hd : d.depth < 40) (hw : d.weight ≤ 2 ^ 20) : Rp d := by
  obtain ⟨a, b, c, e⟩ := sml_all d h
  exact ⟨a, b, hd, PyData.shown_fits (B := 13) (by decide) (by decide) (PyData.leavesShort_of_canLay0 13 d c e) hw⟩
theorem weightAll_le {n : Nat} : ∀ {l : List PyData}, (∀ d ∈ l, d.weight ≤ n) → PyData.weightAll l ≤ l.length * (n + 1)
  | [], _ => by simp [PyData.weightAll]
  | d :: l, h => by
    have h1 := h d List.mem_cons_self
    have h2 := weightAll_le fun e he => h e (List.mem_cons_of_mem _ he)
    simp only [PyData.weightAll, List.length_cons, Nat.add_mul, Nat.one_mul]
    omega
theorem leaf_w {d : PyData} (h : sml d = true) (hn : ∀ xs, d ≠ .tuple xs) : d.weight ≤ 20 ∧ d.depth ≤ 1 := by
  cases d with
  | int i =>
    have h : i.natAbs < 1000 := by simpa [sml] using h
    have := log_small h
    simp only [PyData.weight, PyData.depth]
    split <;> omega
  | str s =>
    obtain ⟨h1, h2⟩ : PyData.strOk s = true ∧ s.length ≤ 20 := by simpa [sml] using h
    exact ⟨h2, by simp [PyData.depth]⟩
  | tuple xs => exact absurd rfl (hn xs)
  | none => simp [sml] at h
  | bool _ => simp [sml] at h
  | list _ => simp [sml] at h
  | dict _ => simp [sml] at h
/-- a tuple of leaves -/
theorem flat_w {xs : List PyData} (h : ∀ d ∈ xs, sml d = true ∧ ∀ ys, d ≠ .tuple ys) : sml (.tuple xs) = true ∧ (PyData.tuple xs).weight ≤ xs.length * 21 ∧ (PyData.tuple xs).depth ≤ 2 := by
  refine ⟨by rw [sml, smlA_iff]; exact fun d hd => (h d hd).1, ?_, ?_⟩
  · simp only [PyData.weight]
    exact weightAll_le fun d hd => (leaf_w (h d hd).1 (h d hd).2).1
  · have := depthAll_le fun d hd => (leaf_w (h d hd).1 (h d hd).2).2
    simp only [PyData.depth]
    omega
/-- a tuple of such tuples -/
theorem deep_w {n : Nat} {xs : List PyData} (h : ∀ d ∈ xs, sml d = true ∧ d.weight ≤ n ∧ d.depth ≤ 2) (hn : xs.length * (n + 1) ≤ 2 ^ 20) : Rp (.tuple xs) := by
  refine rp_sml (by rw [sml, smlA_iff]; exact fun d hd => (h d hd).1) ?_ ?_
  · have := depthAll_le fun d hd => (h d hd).2.2
    simp only [PyData.depth]
    omega
  · simp only [PyData.weight]
    exact Nat.le_trans (weightAll_le fun d hd => (h d hd).2.1) hn
theorem rp_bool (b : Bool) : Rp (.bool b) := ⟨rfl, rfl, by simp [PyData.depth], by cases b <;> exact Nat.le_trans (show _ ≤ 5 by decide) (by decide)⟩
theorem rp_int {n : Nat} (h : n < 1000) : Rp (.int (n : Nat)) := rp_sml (by simp [sml]; omega) (by simp [PyData.depth]) (by
  have := (leaf_w (d := .int (n : Nat)) (by simp [sml]; omega) (by intro _ z; cases z)).1
  exact Nat.le_trans this (by decide))
theorem nm_sml {s : Str} (h : IsNm s) : sml (.str s) = true := by
  rw [sml, nm_ok h, decide_eq_true (Nat.le_trans h.2.1 (by decide))]; rfl
theorem wd_sml {s : Str} (h : s ∈ wordsL) : sml (.str s) = true := by
  have : (wordsL.all fun s => sml (.str s)) = true := by decide +kernel
  exact List.all_eq_true.mp this s h
theorem kD_sml {n : Nat} {r : Rw} (h : Rk n r) (s : Sm r) : ∀ d ∈ (PyData.str r.w :: r.as.map kD), sml d = true ∧ ∀ ys, d ≠ .tuple ys := by
  intro d hd
  rcases List.mem_cons.mp hd with rfl | hd
  · exact ⟨wd_sml h.wd, fun ys z => by cases z⟩
  · obtain ⟨x, hx, rfl⟩ := List.mem_map.mp hd
    rcases s.as x hx with rfl | rfl | ⟨i, rfl, hi⟩
    · exact ⟨nm_sml nm_cat, fun ys z => by cases z⟩
    · exact ⟨nm_sml nm_dog, fun ys z => by cases z⟩
    · exact ⟨by simp [kD, sml, hi], fun ys z => by cases z⟩
theorem rp_rows {rows : List Rw} (h : RkL rows) (s : ∀ r ∈ rows, Sm r) (hl : rows.length ≤ 20) : Rp (.tuple (rows.map rowD)) := by
  refine deep_w (n := 100) (fun d hd => ?_) (by rw [List.length_map]; omega)
  obtain ⟨r, hr, rfl⟩ := List.mem_map.mp hd
  obtain ⟨n, rk⟩ := h.wf r hr
  obtain ⟨a, b, c⟩ := flat_w (kD_sml rk (s r hr))
  refine ⟨a, Nat.le_trans b ?_, c⟩
  have := frm_len r.w
  rw [List.length_cons, List.length_map, rk.ok.ln]
  omega
theorem rp_names {A B : List Str} (ha : ∀ x ∈ A, IsNm x) (hb : ∀ x ∈ B, IsNm x) (la : A.length ≤ 1000) (lb : B.length ≤ 1000) : Rp (.tuple [.tuple (A.map .str), .tuple (B.map .str)]) := by
  have one : ∀ {A : List Str}, (∀ x ∈ A, IsNm x) → A.length ≤ 1000 → sml (.tuple (A.map .str)) = true ∧ (PyData.tuple (A.map .str)).weight ≤ 21000 ∧ (PyData.tuple (A.map .str)).depth ≤ 2 := fun {A} h l => by
    obtain ⟨a, b, c⟩ := flat_w (xs := A.map .str) fun d hd => by
      obtain ⟨x, hx, rfl⟩ := List.mem_map.mp hd
      exact ⟨nm_sml (h x hx), fun ys z => by cases z⟩
    refine ⟨a, Nat.le_trans b ?_, c⟩
    rw [List.length_map]; omega
  refine deep_w (n := 21000) (all2 (one ha la) (one hb lb)) (by show 2 * 21001 ≤ _; decide)
/-! ### names by the law -/
def atom3 : List Str := ["above", "rises", "falls"]
def lthR (r : Rw) : List Str := if r.w ∈ atom3 then r.as.filterMap nmOf else []
def lblR (r : Rw) : List Str := if r.w = "rings" then r.as.filterMap nmOf else []
theorem kws_eq (k : Str) (r : Rw) (ks : List Str) (h : frm r.w = ks) (ln : r.as.length = ks.length) : kws k r = ((ks.zip r.as).filter fun d => decide (d.1 = k)).map (·.2) := by
  unfold kws prt
  rw [h]
theorem kws_none {n : Nat} {r : Rw} (h : Rk n r) {k : Str} (hk : k ∉ frm r.w) : kws k r = [] := by
  unfold kws
  rw [List.map_eq_nil_iff, List.filter_eq_nil_iff]
  intro d hd
  have := (List.of_mem_zip hd).1
  simp only [decide_eq_true_eq]
  exact fun e => hk (e ▸ this)
theorem kws_all {n : Nat} {r : Rw} (h : Rk n r) {k : Str} (hk : ∀ z ∈ frm r.w, z = k) : kws k r = r.as := by
  unfold kws
  rw [List.filter_eq_self.mpr, prt_snd h.ok.ln]
  intro d hd
  exact decide_eq_true (hk _ (List.of_mem_zip hd).1)
theorem frm_in {w : Str} : ∀ ws : List Str, w ∈ ws → ∀ p : Str → Bool, (ws.all p) = true → p w = true := fun ws h p q => List.all_eq_true.mp q w h
theorem thr_eq {n : Nat} {r : Rw} (h : Rk n r) : nms "side" r ++ nms "thing" r = lthR r := by
  unfold lthR
  have key := frm_in wordsL h.wd (fun w => decide (
    (w ∈ atom3 → ((∀ z ∈ frm w, z = "side") ∧ ("thing" : Str) ∉ frm w) ∨ ((∀ z ∈ frm w, z = "thing") ∧ ("side" : Str) ∉ frm w)) ∧ (¬ w ∈ atom3 → ("side" : Str) ∉ frm w ∧ ("thing" : Str) ∉ frm w))) (by decide +kernel)
  simp only [decide_eq_true_eq] at key
  unfold nms
  by_cases c : r.w ∈ atom3
  · rw [if_pos c]
    rcases key.1 c with ⟨a, b⟩ | ⟨a, b⟩
    · rw [kws_all h a, kws_none h b]; simp
    · rw [kws_all h a, kws_none h b]; simp
  · rw [if_neg c, kws_none h (key.2 c).1, kws_none h (key.2 c).2]; rfl
theorem blr_eq {n : Nat} {r : Rw} (h : Rk n r) : nms "bell" r = lblR r := by
  unfold lblR
  have key := frm_in wordsL h.wd (fun w => decide ((w = "rings" → (∀ z ∈ frm w, z = "bell")) ∧ (¬ w = "rings" → ("bell" : Str) ∉ frm w))) (by decide +kernel)
  simp only [decide_eq_true_eq] at key
  unfold nms
  by_cases c : r.w = "rings"
  · rw [if_pos c, kws_all h (key.1 c)]
  · rw [if_neg c, kws_none h (key.2 c)]; rfl
theorem thL_law {rows : List Rw} (h : RkL rows) : thL rows = rows.flatMap lthR := by
  unfold thL
  rw [List.flatMap_def, List.flatMap_def, List.map_congr_left fun r hr => ?_]
  obtain ⟨n, rk⟩ := h.wf r hr
  exact thr_eq rk
theorem blL_law {rows : List Rw} (h : RkL rows) : blL rows = rows.flatMap lblR := by
  unfold blL
  rw [List.flatMap_def, List.flatMap_def, List.map_congr_left fun r hr => ?_]
  obtain ⟨n, rk⟩ := h.wf r hr
  exact blr_eq rk
theorem th_mem {rows : List Rw} (s : ∀ r ∈ rows, Sm r) : ∀ x ∈ rows.flatMap lthR, x = "cat" ∨ x = "dog" := by
  intro x hx
  obtain ⟨r, hr, hx⟩ := List.mem_flatMap.mp hx
  unfold lthR at hx
  split at hx
  · obtain ⟨k, hk, e⟩ := List.mem_filterMap.mp hx
    rcases (s r hr).as k hk with rfl | rfl | ⟨i, rfl, _⟩
    · exact .inl (Option.some.inj e).symm
    · exact .inr (Option.some.inj e).symm
    · cases e
  · cases hx
theorem bl_mem {rows : List Rw} (s : ∀ r ∈ rows, Sm r) : ∀ x ∈ rows.flatMap lblR, x = "cat" := by
  intro x hx
  obtain ⟨r, hr, hx⟩ := List.mem_flatMap.mp hx
  unfold lblR at hx
  split at hx
  · rename_i c
    rw [(s r hr).bell c] at hx
    have : x = "cat" := by simpa [nmOf] using hx
    exact this
  · cases hx
theorem cat_dog : sLt ("cat" : Str) "dog" := by decide +kernel
theorem two_lot {A : List Str} (h : ∀ x ∈ A, x = "cat" ∨ x = "dog") : ([("cat" : Str), "dog"].filter fun x => decide (x ∈ A)) = lotS A := by
  refine lotS_eq ?_ fun x => ?_
  · exact List.Pairwise.filter _ (List.pairwise_cons.mpr ⟨fun y hy => by rw [List.mem_singleton.mp hy]; exact cat_dog, List.pairwise_singleton _ _⟩)
  · rw [List.mem_filter, decide_eq_true_iff]
    refine ⟨fun k => k.2, fun k => ⟨?_, k⟩⟩
    rcases h x k with rfl | rfl <;> simp
theorem one_lot {A : List Str} (h : ∀ x ∈ A, x = "cat") : (if A = [] then ([] : List Str) else ["cat"]) = lotS A := by
  refine lotS_eq ?_ fun x => ?_
  · split
    · exact .nil
    · exact List.pairwise_singleton _ _
  · by_cases c : A = []
    · rw [if_pos c, c]
    · rw [if_neg c, List.mem_singleton]
      obtain ⟨y, l, e⟩ := List.exists_cons_of_ne_nil c
      have hy : y = "cat" := h y (by rw [e]; simp)
      exact ⟨fun z => by rw [z, e, hy]; simp, fun k => h x k⟩
/-! ### words by the law -/
theorem tless_ws (rows : List Rw) : tless rows = (!decide (("soon" : Str) ∈ rows.map (·.w)) && !decide (("lately" : Str) ∈ rows.map (·.w))) := by
  unfold tless
  rw [Bool.eq_iff_iff, Bool.and_eq_true, List.all_eq_true]
  simp only [Bool.not_eq_true', decide_eq_false_iff_not, soonL, List.mem_cons, List.not_mem_nil, or_false, List.mem_map]
  constructor
  · exact fun h => ⟨fun ⟨r, hr, e⟩ => h r hr (.inl e), fun ⟨r, hr, e⟩ => h r hr (.inr e)⟩
  · exact fun ⟨a, b⟩ r hr e => e.elim (fun e => a ⟨r, hr, e⟩) fun e => b ⟨r, hr, e⟩
theorem tless_tidy {rows v : List Rw} (t : Tidy rows v) : tless v = (!decide (("soon" : Str) ∈ ws (lastT rows)) && !decide (("lately" : Str) ∈ ws (lastT rows))) := by
  rw [tless_ws]
  have e : ∀ x : Str, decide (x ∈ v.map (·.w)) = decide (x ∈ ws (lastT rows)) := fun x => decide_eq_decide.mpr (by rw [← t.wds x, List.mem_map])
  rw [e, e]
theorem dp_le : ∀ (n : Nat) {d : PyData}, d.depth ≤ n → gt d = true → dp d ≤ n
  | 0, d, h, g => (depth0 g h).elim
  | n + 1, d, h, g => by
    obtain ⟨w, xs, rfl, _, gx, _⟩ := gt_form g
    have hx : ∀ l : List PyData, (∀ e ∈ l, e ∈ xs) → dpA l ≤ n := by
      intro l
      induction l with
      | nil => intro _; simp [dpA]
      | cons e l ih =>
        intro hl
        rw [dpA]
        have h1 := ih fun z hz => hl z (List.mem_cons_of_mem _ hz)
        have he := hl e List.mem_cons_self
        have h2 : dp e ≤ n := by
          rcases gtA_iff.mp gx e he with k | k
          · rw [(leaf_gt k).2.2.1]; omega
          · exact dp_le n (depth_kid h he) k
        omega
    have := hx xs fun _ h => h
    rw [dp]
    split <;> omega
/-! ### lists of trees -/
theorem tr_gt {rows : List Rw} (g : G rows) {k : Nat} (h : k < rows.length) : gt ((trs rows).getD k .none) = true := by
  rw [getD_lt (by rw [trs_len]; exact h)]
  exact trs_gt g _ (List.getElem_mem _)
theorem tr_depth {rows : List Rw} (g : G rows) (hl : rows.length ≤ 8) {k : Nat} (h : k < rows.length) : ((trs rows).getD k .none).depth ≤ 9 := Nat.le_trans (depth_tu g _ k (Nat.lt_succ_self _) h) (by omega)
theorem tr_all {rows : List Rw} (g : G rows) (hl : rows.length ≤ 8) : ∀ d ∈ trs rows, gt d = true ∧ d.depth ≤ 9 := fun d hd => by
  obtain ⟨i, hi, rfl⟩ := List.mem_iff_getElem.mp hd
  rw [trs_len] at hi
  have a := tr_gt g hi
  have b := tr_depth g hl hi
  rw [getD_lt (by rw [trs_len]; exact hi)] at a b
  exact ⟨a, b⟩
theorem shpL {ds : List PyData} (h : ∀ d ∈ ds, gt d = true ∧ d.depth ≤ 9) : SeqAt.shaped (.list ds) = true := by
  unfold SeqAt.shaped
  rw [PyData.canLay0, puA_can ds (puA_iff.mpr fun d hd => gt_pu _ (Nat.le_refl _) (h d hd).1), decide_eq_true]
  · rfl
  · have := depthAll_le fun d hd => (h d hd).2
    simp only [PyData.depth]
    omega
theorem eqvL {ds : List PyData} (h : ∀ d ∈ ds, gt d = true ∧ d.depth ≤ 9) : PyData.eqv (.list ds) (.list ds) = true := by
  have p := puA_iff.mpr fun d hd => gt_pu _ (Nat.le_refl _) (h d hd).1
  rw [PyData.eqv]
  exact (puA_eqv ds ds p p).mpr rfl
theorem rd_neSame {K : PySem.W.Frag} {H : Hp} {Q : VK} {a b : Addr} {xs ys : List V} {ds : List PyData} (ha : SqL K H a xs) (hx : DpAll K H xs ds) (hb : SqL K H b ys) (hy : DpAll K H ys ds) (h : ∀ d ∈ ds, gt d = true ∧ d.depth ≤ 9) (q : Q (.bl false) H) : rNeD K (.ref a) (.ref b) H Q :=
  ⟨_, _, .lst ha hx, .lst hb hy, shpL h, shpL h, by rw [eqvL h]; exact q⟩
theorem rd_notIn {K : PySem.W.Frag} {H : Hp} {Q : VK} {v : V} {b : Addr} {ys : List V} {d : PyData} {ds : List PyData} (hv : Dp K H v d) (gd : gt d = true) (dd : d.depth ≤ 9) (hb : SqL K H b ys) (hy : DpAll K H ys ds) (h : ∀ d ∈ ds, gt d = true ∧ d.depth ≤ 9) (q : Q (.bl (!hasE ds d)) H) : rNotInD K v (.ref b) H Q :=
  ⟨d, ds, hv, .lst hb hy, shp_of gd dd (by decide), shpL h, q⟩
theorem due_sub {ts : List PyData} {l : PyData} : ∀ i, i ≤ ts.length → ∀ d ∈ dueL ts l i, d ∈ ts
  | 0, _, d, h => by cases h
  | i + 1, hi, d, h => by
    rw [dueL] at h
    split at h
    · rcases List.mem_append.mp h with h | h
      · exact due_sub i (by omega) d h
      · rw [List.mem_singleton.mp h, getD_lt (by omega)]
        exact List.getElem_mem _
    · exact due_sub i (by omega) d h
theorem due_len {ts : List PyData} {l : PyData} : ∀ i, (dueL ts l i).length ≤ i
  | 0 => Nat.le_refl _
  | i + 1 => by
    rw [dueL]
    have := due_len (ts := ts) (l := l) i
    split
    · rw [List.length_append, List.length_singleton]; omega
    · omega
theorem dpA_take {K : PySem.W.Frag} {H : Hp} {xs : List V} {ds : List PyData} (h : DpAll K H xs ds) (n : Nat) : DpAll K H (xs.take n) (ds.take n) := by
  induction ds generalizing xs n with
  | nil => cases h; simp; exact .nil
  | cons d ds ih =>
    cases h with
    | cons a b =>
      cases n with
      | zero => exact .nil
      | succ n => exact .cons a (ih b n)
/-- a def whose body knows that nothing is being shown -/
theorem go_ok {P : Program} {w : World} {K : PySem.W.Frag} {mg : Str → Option Value} {base : Heap} {x qual : Str} {st : Stmt} {f : Addr} {fd : FuncData} {N ps : List Str} {k : Nat} {sp : Sp} (F : Fun K x qual st f fd) (S : FnScope N ps (defScope st)) (many : ∀ vs H Q E, sp vs H Q E → vs.length = ps.length)
    (inside : ∀ (cdv : Value) (A : Around) (outer : List Env) (s : Shared) (H : Hp) (vs : List V) (Q : VK) (E : XK), Room k (A.deeper (envOfC qual (defScope st) s.heap.objs.size f cdv)) → Free (A.deeper (envOfC qual (defScope st) s.heap.objs.size f cdv)) → sp vs H Q E →
      ∃ t, PSs (cxOf CX0 P w K mg base N qual (defScope st) f cdv A outer s H E).nox (defBody st) t ∧ t { nx := fun _ H' => Q .non H', rt := Q } (start N vs) H) : FnG P w K mg base CX0 (k + 1) f fd ps sp := by
  obtain ⟨oc, od, kV, doc, pm, an, cdv, ct, osl, rfl, lk, hcd⟩ := F.ex
  refine mk_go lk hcd S many fun A outer s H vs Q E hr fr hs => ?_
  obtain ⟨t, h, q⟩ := inside cdv A outer s H vs Q E hr fr hs
  exact ⟨t, h.nox, q⟩
end K3

namespace K3
open PySem PySem.Spec PyProof.Rows L2 Hb St Sq Ow En Zp RZ Rd StX
local macro_rules | `(tactic| walk_at "wp") => `(tactic| try simp only [cxOf, tKGet, gName, rIxT, rIxL, tOr, tAnd, tB, tCB, tAsg, tTup, tLst, tSl, tNoPart, tPart, tDrop, tBM, tBM0, tPar, tAug, tIf, tYes, tCKw, tSeq, tRet, tRetN, tTest, tOp, tUn, tVar, tC, tCall, tCons, tNil, tIfS, tNext, tAndV, tOrV, tNot, tNotV, rEq, rNe, rI0, rI, L2.start, List.map_cons, List.map_nil, List.cons_append, List.nil_append, List.length_cons, List.length_nil, List.append_nil, Nat.reduceAdd, Nat.reduceSub, Nat.zero_add, List.replicate, List.getElem?_cons_zero, List.getElem?_cons_succ, List.set_cons_zero, List.set_cons_succ, Option.some.injEq, exists_eq_left', exists_eq_left, V.bl.injEq, V.str.injEq, V.int.injEq, V.ref.injEq, V.ty.injEq, List.cons.injEq, and_true, true_and, exists_and_left])
open Gu
section
variable {K : PySem.W.Frag}
/-- where a turn stands, rows and trees made -/
structure LI (K : PySem.W.Frag) (C : Addr) (p l L S D : Addr) (its ys : List V) (rows : List Rw) (H : Hp) : Prop where
  deal : DealAt H p l
  eL : H L = some (.lst its)
  al : All2 (RowT H) its rows
  st : StA K C H (.ref S) rows
  eD : H D = some (.lst ys)
  dp : DpAll K H ys (trs rows)
  rk : RkL rows
  sm : ∀ r ∈ rows, Sm r
  n0 : 0 < rows.length
  n8 : rows.length ≤ 8
  pL : L ≠ p
  lL : L ≠ l
  pD : D ≠ p
  lD : D ≠ l
theorem LI.same {C p l L S D : Addr} {its ys : List V} {rows : List Rw} {H H' : Hp} (h : LI K C p l L S D its ys rows H) (s : Same H H') : LI K C p l L S D its ys rows H' :=
  ⟨h.deal.same s, s _ _ h.eL, h.al.imp fun _ _ q => q.fix (Fix.of s), h.st.same s, s _ _ h.eD, dpA_fix (Fix.of s) _ _ (puA_iff.mpr (trs_pu h.rk.g)) h.dp, h.rk, h.sm, h.n0, h.n8, h.pL, h.lL, h.pD, h.lD⟩
theorem LI.put {C p l L S D E : Addr} {its ys es fs : List V} {rows : List Rw} {H : Hp} (h : LI K C p l L S D its ys rows H) (e : H E = some (.lst es)) (n1 : E ≠ p) (n2 : E ≠ l) (n3 : L ≠ E) (n4 : D ≠ E) : LI K C p l L S D its ys rows (upd H E (.lst fs)) := by
  have f : Fix H (upd H E (.lst fs)) := Fix.lst e
  obtain ⟨ns, b, h1, h2, h3⟩ := h.deal
  exact ⟨⟨ns, b, by rw [upd_ne n1.symm]; exact h1, by rw [upd_ne n2.symm]; exact h2, h3⟩, by rw [upd_ne n3]; exact h.eL, h.al.imp fun _ _ q => q.fix f, h.st.fix f, by rw [upd_ne n4]; exact h.eD, dpA_fix f _ _ (puA_iff.mpr (trs_pu h.rk.g)) h.dp, h.rk, h.sm, h.n0, h.n8, h.pL, h.lL, h.pD, h.lD⟩
theorem cut_take {xs : List V} {n : Nat} (h : n ≤ xs.length) : cutV xs none (some (n : Nat)) = xs.take n := by
  unfold cutV
  rw [HT.sIx_none, HT.sIx_nat, Nat.min_eq_left h, List.drop_zero, Nat.sub_zero]
theorem flat_len {f : Rw → List Str} : ∀ l : List Rw, (∀ r ∈ l, (f r).length ≤ 2) → (l.flatMap f).length ≤ 2 * l.length
  | [], _ => Nat.le_refl _
  | r :: l, h => by
    have h1 := h r List.mem_cons_self
    have h2 := flat_len l fun s hs => h s (List.mem_cons_of_mem _ hs)
    rw [List.flatMap_cons, List.length_append, List.length_cons]
    omega
theorem dp_strs {H : Hp} : ∀ ns : List Str, DpAll K H (ns.map V.str) (ns.map PyData.str)
  | [] => .nil
  | n :: ns => .cons (.str n) (dp_strs ns)
theorem shp_strs {ns : List Str} (h : ∀ x ∈ ns, PyData.strOk x = true) : SeqAt.shaped (.list (ns.map PyData.str)) = true := by
  unfold SeqAt.shaped
  rw [PyData.canLay0]
  have h1 : PyData.canLayAll0 (ns.map PyData.str) = true := by
    induction ns with
    | nil => simp [PyData.canLayAll0]
    | cons n ns ih => rw [List.map_cons, PyData.canLayAll0, ih fun x hx => h x (List.mem_cons_of_mem _ hx), PyData.canLay0, h n List.mem_cons_self]; rfl
  have h2 := depthAll_le (n := 1) (l := ns.map PyData.str) fun d hd => by
    obtain ⟨n, _, rfl⟩ := List.mem_map.mp hd
    simp [PyData.depth]
  rw [h1, decide_eq_true]
  · rfl
  · simp only [PyData.depth]
    omega
theorem eqv_nilS (ns : List Str) : PyData.eqv (.list (ns.map PyData.str)) (.list []) = decide (ns = []) := by
  cases ns with
  | nil => simp [PyData.eqv, PyData.eqvAll]
  | cons n ns => simp [PyData.eqv, PyData.eqvAll]
theorem LI.kept2 {C p l L S D : Addr} {its ys : List V} {rows : List Rw} {H H' : Hp} (h : LI K C p l L S D its ys rows H) (k : Kept2 p l H H') (d : DealAt H' p l) : LI K C p l L S D its ys rows H' := by
  have f := k.fix h.deal
  exact ⟨d, k _ _ h.eL h.pL h.lL, h.al.imp fun _ _ q => q.fix f, h.st.fix f, k _ _ h.eD h.pD h.lD, dpA_fix f _ _ (puA_iff.mpr (trs_pu h.rk.g)) h.dp, h.rk, h.sm, h.n0, h.n8, h.pL, h.lL, h.pD, h.lD⟩
theorem trs_pre (a b : List Rw) {i : Nat} (h : i < a.length) : (trs (a ++ b)).getD i .none = (trs a).getD i .none := by
  refine rev_ind (P := fun b => (trs (a ++ b)).getD i .none = (trs a).getD i .none) (by rw [List.append_nil]) (fun l x ih => ?_) b
  rw [← List.append_assoc, trs_snoc, getD_app (by rw [trs_len, List.length_append]; omega), ih]
theorem due_step (ts : List PyData) (l : PyData) (i : Nat) : dueL ts l (i + 1) = if (!hasE (ts.take i) (ts.getD i .none) && wi (ts.getD i .none) l) = true then dueL ts l i ++ [ts.getD i .none] else dueL ts l i := by rw [dueL]
end
section
variable {P : Program} {w : World} {K : PySem.W.Frag} {mg : Str → Option Value} {base : Heap}
abbrev s_law : Stmt := top 39
theorem sc_law : FnScope ["script", "deal", "turn", "rows", "at", "stair", "trees", "last", "due", "tree", "tidy", "things", "bells", "row", "names", "words", "told", "many", "name", "part"] ["script"] (defScope s_law) := ⟨rfl, rfl, rfl, by decide +kernel, rfl, by decide +kernel, by decide +kernel⟩
def spLaw (K : PySem.W.Frag) : Sp := fun vs H Q _ => ∃ (a : Addr) (ns : List Int), vs = [.ref a] ∧ SqL K H a (ns.map V.int) ∧ ns.length ≤ 63 ∧ ∀ H', Q (.bl true) H'
theorem ok_law {f : Addr} {fd : FuncData} (F : Fun K "law" "law" s_law f fd) (TC : Txt K mg C_Stair) (C__law_deal : Cl P w K mg base "_law_deal" ["script", "base"] [] 1 (spDeal K)) (C__law_deep : Cl P w K mg base "_law_deep" ["tree"] [] 12 (spDeep K 11)) (C__law_draw : Cl P w K mg base "_law_draw" ["deal", "bound"] [] 1 spDraw) (C__law_is_within : Cl P w K mg base "_law_is_within" ["tree", "whole"] [] 12 (spWithin K 11)) (C__law_row : Cl P w K mg base "_law_row" ["deal", "at"] [] 3 (spLRow K)) (C__law_trees : Cl P w K mg base "_law_trees" ["rows"] [] 1 (spTrees K)) (C__law_words : Cl P w K mg base "_law_words" ["tree", "found"] [] 12 (spWords K 11)) (C_is_timeless : Cl P w K mg base "is_timeless" ["stair"] [] 1 (spTimeless K C_Stair)) (C_stair_depth : Cl P w K mg base "stair_depth" ["stair"] [] 2 (spDepth K C_Stair)) (C_stair_names : Cl P w K mg base "stair_names" ["stair"] [] 3 (spNames K C_Stair)) (C_tidy_stair : Cl P w K mg base "tidy_stair" ["stair"] [] 7 (spTidy K C_Stair)) (CK_tidy_stair : ClK P w K mg base "tidy_stair" ["stair"] 0 ["stair"] (fun us zs => us ++ zs) 7 (spTidy K C_Stair)) (D_eq : Ch P w K mg base C_Stair "__eq__" ["self", "other"] [] 1 (spSEq K C_Stair)) (M_Stair : Cm P w K mg base "Stair" C_Stair ["self", "rows"] 5 (spInit K C_Stair)) (g_Stair : mg "Stair" = some (.ref C_Stair)) (n_enumerate : mg "enumerate" = none) (n_isinstance : mg "isinstance" = none) (n_len : mg "len" = none) (n_range : mg "range" = none) (n_repr : mg "repr" = none) (n_str : mg "str" = none) (n_tuple : mg "tuple" = none) : FnG P w K mg base CX0 14 f fd ["script"] (spLaw K) := by
  refine go_ok F sc_law (fun vs H Q E h => ?_) (fun cdv A outer s H vs Q E hr fr h => ?_)
  · obtain ⟨_, _, rfl, _⟩ := h
    rfl
  · obtain ⟨a0, ns, rfl, hns, n63, q⟩ := h
    refine ⟨_, (pss_cons (ps_set (i := 1) sc_law.nd rfl (Or.inl rfl) (pe_use C__law_deal (hr.mono (by decide)) rfl (pa_cons (pv 0) (pa_cons pe_int pa_nil))))
    (Evl.pss_cut (ps_for PassesOwn.never rfl (pi_range1 (by rfl) n_range (pa_cons pe_int pa_nil)) (pg_name (i := 2) sc_law.nd rfl (Or.inl rfl))
      (pss_cons (ps_set (i := 3) sc_law.nd rfl (Or.inl rfl) (pe_lst pa_nil))
    (Evl.pss_cut (ps_for PassesOwn.never rfl (pi_range1 (by rfl) n_range (pa_cons (pe_op op_add pe_int (pe_use C__law_draw (hr.mono (by decide)) rfl (pa_cons (pv 1) (pa_cons pe_int pa_nil)))) pa_nil)) (pg_name (i := 4) sc_law.nd rfl (Or.inl rfl))
      (pss_one (ps_expr (pe_bm PySem.F.plainAttrs_list PySem.F.slot_list_append PySem.F.type_list_append mt_append (pv 3) (pa_cons (pe_use C__law_row (hr.mono (by decide)) rfl (pa_cons (pv 1) (pa_cons (pv 4) pa_nil))) pa_nil)))))
    (pss_cons (ps_par (i := 5) (j := 6) (by rfl) sc_law.nd rfl rfl (by decide) rfl rfl (pa_cons (pe_new M_Stair (hr.mono (by decide)) rfl (pa_cons (pv 3) pa_nil)) (pa_cons (pe_use C__law_trees (hr.mono (by decide)) rfl (pa_cons (pv 3) pa_nil)) pa_nil)) (by rfl))
    (pss_cons (ps_par (i := 7) (j := 8) (by rfl) sc_law.nd rfl rfl (by decide) rfl rfl (pa_cons (pe_ix ix_list (pv 6) (pe_op op_sub pe_int pe_int) (fun _ _ => rfl)) (pa_cons (pe_lst pa_nil) pa_nil)) (by rfl))
    (Evl.pss_cut (ps_for PassesOwn.never rfl (pi_or (pi_enum (by rfl) n_enumerate (pa_cons (pv 6) pa_nil)) (pi_enumT (by rfl) n_enumerate (pa_cons (pv 6) pa_nil))) (pg_tup rfl (pgs_cons (pg_name (i := 4) sc_law.nd rfl (Or.inl rfl)) (pgs_cons (pg_name (i := 9) sc_law.nd rfl (Or.inl rfl)) pgs_nil)))
      (pss_one (ps_if (PW.pt (pw_and (pt_cmpR (op_notInD hr.units65) (pv 9) (pe_slice (r := rSlL K) sl_list (pv 6) po_none (po_some (pv 4))) rfl) (pw_and1 (pt_val (pe_use C__law_is_within (hr.mono (by decide)) rfl (pa_cons (pv 9) (pa_cons (pv 7) pa_nil))))))) (pss_one (ps_expr (pe_bm PySem.F.plainAttrs_list PySem.F.slot_list_append PySem.F.type_list_append mt_append (pv 8) (pa_cons (pv 9) pa_nil)))) pss_nil)))
    (pss_cons (ps_set (i := 10) sc_law.nd rfl (Or.inl rfl) (pe_use C_tidy_stair (hr.mono (by decide)) rfl (pa_cons (pv 5) pa_nil)))
    (Evl.pss_cut (ps_if (PW.pt (pw_or (pt_not (pt_val (pe_callB call_isi (by rfl) n_isinstance (by decide +kernel) (pa_cons (pv 10) (pa_cons (pe_glob (v := .ref C_Stair) (by rfl) g_Stair rfl) pa_nil))))) (pw_or (pt_cmpR op_ne (pe_callB call_len_seq (by rfl) n_len PySem.boot_len (pa_cons (pe_fld (pv 10) rfl) pa_nil)) (pe_callB call_len_seq (by rfl) n_len PySem.boot_len (pa_cons (pv 8) pa_nil)) (nomark _)) (pw_or1 (pt_cmpR (op_neD hr.units) (pe_use C__law_trees (hr.mono (by decide)) rfl (pa_cons (pe_fld (pv 10) rfl) pa_nil)) (pv 8) (nomark _)))))) (pss_one (ps_ret pe_bl)) pss_nil)
    (Evl.pss_cut (ps_if (PW.pt (pw_or (pt_not (pt_cmpR (op_eqOwn D_eq TC.sL (hr.mono (by decide))) (pe_useK0 CK_tidy_stair (hr.mono (by decide)) rfl (pk_cons (pv 10) pk_nil)) (pv 10) (nomark _))) (pw_or1 (pt_cmpR op_ne (pe_callB (cr_repr fr hr.units) (by rfl) n_repr (by decide +kernel) (pa_cons (pe_fld (pv 5) rfl) pa_nil)) (pe_callB (cr_repr fr hr.units) (by rfl) n_repr (by decide +kernel) (pa_cons (pe_callTy call_tuple_of (by rfl) n_tuple (by decide +kernel) (pa_cons (pv 3) pa_nil)) pa_nil)) (nomark _))))) (pss_one (ps_ret pe_bl)) pss_nil)
    (pss_cons (ps_asg (pe_tup (pa_cons (pe_lst pa_nil) (pa_cons (pe_lst pa_nil) pa_nil))) (pg_tup rfl (pgs_cons (pg_name (i := 11) sc_law.nd rfl (Or.inr rfl)) (pgs_cons (pg_name (i := 12) sc_law.nd rfl (Or.inl rfl)) pgs_nil))))
    (Evl.pss_cut (ps_for PassesOwn.never rfl (pi_seq (pv 3)) (pg_name (i := 13) sc_law.nd rfl (Or.inl rfl))
      (pss_one (ps_if (pt_cmpR op_eq (pe_ix ix_tup (pv 13) pe_int (fun _ _ => rfl)) pe_str (nomark _)) (pss_one (ps_set (i := 12) sc_law.nd rfl (Or.inl rfl) (pe_op op_cat (pv 12) (pe_lst (pa_cons (pe_ix ix_tup (pv 13) pe_int (fun _ _ => rfl)) pa_nil))))) (pss_one (ps_if (pt_cmpR op_in_seq (pe_ix ix_tup (pv 13) pe_int (fun _ _ => rfl)) (pe_tup (pa_cons pe_str (pa_cons pe_str (pa_cons pe_str pa_nil)))) rfl) (pss_one (ps_set (i := 11) sc_law.nd rfl (Or.inr rfl) (pe_op op_cat (pv 11) (pe_lc (own := [("part", 19)]) (g := gName 19) rfl sc_law.nd (pi_seq (pe_slice (r := rSlA K) sl_tupA (pv 13) (po_some pe_int) po_none)) (blkOk_by (N := ["script", "deal", "turn", "rows", "at", "stair", "trees", "last", "due", "tree", "tidy", "things", "bells", "row", "names", "words", "told", "many", "name", "part"]) (sc := defScope s_law) (by decide +kernel)) (fun _ _ _ _ _ => pg_name (i := 19) sc_law.nd rfl (Or.inl rfl)) (fun _ _ _ _ _ => pts_one (pt_val (pe_callB (r := rIsi K) call_isi (by rfl) n_isinstance (by decide +kernel) (pa_cons (pv 19) (pa_cons (pe_bltn (v := .ty "str") (by rfl) n_str (by decide +kernel) rfl) pa_nil))))) (fun _ _ _ _ _ => pv 19))))) pss_nil)))))
    (Evl.pss_cut (ps_set (i := 14) sc_law.nd rfl (Or.inl rfl) (pe_tup (pa_cons (pe_callTy call_tuple_of (by rfl) n_tuple (by decide +kernel) (pa_cons (pe_lc (own := [("name", 18)]) (g := gName 18) rfl sc_law.nd (pi_seq (pe_lst (pa_cons pe_str (pa_cons pe_str pa_nil)))) (blkOk_by (N := ["script", "deal", "turn", "rows", "at", "stair", "trees", "last", "due", "tree", "tidy", "things", "bells", "row", "names", "words", "told", "many", "name", "part"]) (sc := defScope s_law) (by decide +kernel)) (fun _ _ _ _ _ => pg_name (i := 18) sc_law.nd rfl (Or.inl rfl)) (fun _ _ _ _ _ => pts_one (pt_cmpR (r := rIn K false) op_in_seq (pv 18) (pv 11) rfl)) (fun _ _ _ _ _ => pv 18)) pa_nil)) (pa_cons (pe_callTy call_tuple_of (by rfl) n_tuple (by decide +kernel) (pa_cons (pe_ifExp (pt_cmpR (op_neD hr.units) (pv 12) (pe_lst pa_nil) (nomark _)) (pe_lst (pa_cons pe_str pa_nil)) (pe_lst pa_nil)) pa_nil)) pa_nil))))
    (Evl.pss_cut (ps_if (pt_cmpR op_ne (pe_callB (cr_repr fr hr.units) (by rfl) n_repr (by decide +kernel) (pa_cons (pe_use C_stair_names (hr.mono (by decide)) rfl (pa_cons (pv 5) pa_nil)) pa_nil)) (pe_callB (cr_repr fr hr.units) (by rfl) n_repr (by decide +kernel) (pa_cons (pv 14) pa_nil)) (nomark _)) (pss_one (ps_ret pe_bl)) pss_nil)
    (pss_cons (ps_set (i := 15) sc_law.nd rfl (Or.inl rfl) (pe_lst pa_nil))
    (Evl.pss_cut (ps_for PassesOwn.never rfl (pi_seq (pv 3)) (pg_name (i := 13) sc_law.nd rfl (Or.inl rfl))
      (pss_one (ps_expr (pe_bm PySem.F.plainAttrs_list PySem.F.slot_list_append PySem.F.type_list_append mt_append (pv 15) (pa_cons (pe_ix ix_tup (pv 13) pe_int (fun _ _ => rfl)) pa_nil)))))
    (Evl.pss_cut (ps_if (pt_cmpR op_ne (pe_callB (cr_repr fr hr.units) (by rfl) n_repr (by decide +kernel) (pa_cons (pe_use C_is_timeless (hr.mono (by decide)) rfl (pa_cons (pv 5) pa_nil)) pa_nil)) (pe_callB (cr_repr fr hr.units) (by rfl) n_repr (by decide +kernel) (pa_cons (pe_and (pe_cmpR op_notIn_seq pe_str (pv 15) rfl) (pe_one (pe_cmpR op_notIn_seq pe_str (pv 15) rfl))) pa_nil)) (nomark _)) (pss_one (ps_ret pe_bl)) pss_nil)
    (pss_cons (ps_set (i := 16) sc_law.nd rfl (Or.inl rfl) (pe_use C__law_words (hr.mono (by decide)) rfl (pa_cons (pv 7) (pa_cons (pe_lst pa_nil) pa_nil))))
    (Evl.pss_cut (ps_if (pt_cmpR op_ne (pe_callB (cr_repr fr hr.units) (by rfl) n_repr (by decide +kernel) (pa_cons (pe_use C_is_timeless (hr.mono (by decide)) rfl (pa_cons (pv 10) pa_nil)) pa_nil)) (pe_callB (cr_repr fr hr.units) (by rfl) n_repr (by decide +kernel) (pa_cons (pe_and (pe_cmpR op_notIn_seq pe_str (pv 16) rfl) (pe_one (pe_cmpR op_notIn_seq pe_str (pv 16) rfl))) pa_nil)) (nomark _)) (pss_one (ps_ret pe_bl)) pss_nil)
    (Evl.pss_cut (ps_if (PW.pt (pw_or (pt_cmpR op_ne (pe_callB (cr_repr fr hr.units) (by rfl) n_repr (by decide +kernel) (pa_cons (pe_use C_stair_depth (hr.mono (by decide)) rfl (pa_cons (pv 5) pa_nil)) pa_nil)) (pe_callB (cr_repr fr hr.units) (by rfl) n_repr (by decide +kernel) (pa_cons (pe_use C__law_deep (hr.mono (by decide)) rfl (pa_cons (pv 7) pa_nil)) pa_nil)) (nomark _)) (pw_or1 (pt_cmpR op_ne (pe_callB (cr_repr fr hr.units) (by rfl) n_repr (by decide +kernel) (pa_cons (pe_use C_stair_depth (hr.mono (by decide)) rfl (pa_cons (pv 10) pa_nil)) pa_nil)) (pe_callB (cr_repr fr hr.units) (by rfl) n_repr (by decide +kernel) (pa_cons (pe_use C__law_deep (hr.mono (by decide)) rfl (pa_cons (pv 7) pa_nil)) pa_nil)) (nomark _))))) (pss_one (ps_ret pe_bl)) pss_nil)
    (pss_cons (ps_set (i := 17) sc_law.nd rfl (Or.inl rfl) (pe_use C__law_draw (hr.mono (by decide)) rfl (pa_cons (pv 1) (pa_cons (pe_callB call_len_seq (by rfl) n_len PySem.boot_len (pa_cons (pv 3) pa_nil)) pa_nil))))
    (pss_one (ps_if (pt_cmpR op_ne (pe_callB (cr_repr fr hr.units) (by rfl) n_repr (by decide +kernel) (pa_cons (pe_use C_stair_depth (hr.mono (by decide)) rfl (pa_cons (pe_new M_Stair (hr.mono (by decide)) rfl (pa_cons (pe_slice (r := rSlL K) sl_list (pv 3) po_none (po_some (pe_op op_add (pv 17) pe_int))) pa_nil)) pa_nil)) pa_nil)) (pe_callB (cr_repr fr hr.units) (by rfl) n_repr (by decide +kernel) (pa_cons (pe_use C__law_deep (hr.mono (by decide)) rfl (pa_cons (pe_ix ix_list (pv 6) (pv 17) (fun _ _ => rfl)) pa_nil)) pa_nil)) (nomark _)) (pss_one (ps_ret pe_bl)) pss_nil))))))))))))))))))))))
    (pss_one (ps_ret pe_bl)))), ?_⟩
    refine ⟨_, rfl, a0, ns, rfl, hns, n63, fun p l H1 hp1 hl1 s1 d1 => ?_⟩
    have pl1 : p ≠ l := by obtain ⟨_, _, z⟩ := d1; exact z.2.2.1
    refine ⟨fun σ H' => True, ?_, fun σ H' _ => q H'⟩
    refine ⟨3, rfl, by decide, by decide, ?_⟩
    refine for_sq (a := p) (wk_range (n := 3)) (fun i σ H' => (∃ o2 o3 o4 o5 o6 o7 o8 o9 o10 o11 o12 o13 o14 o15 o16 o17, σ = [some (.ref a0), some (.ref p), o2, o3, o4, o5, o6, o7, o8, o9, o10, o11, o12, o13, o14, o15, o16, o17, none, none]) ∧ DealAt H' p l) ⟨⟨none, none, none, none, none, none, none, none, none, none, none, none, none, none, none, none, rfl⟩, d1⟩ (fun _ _ _ _ => trivial) ?_ (fun _ _ _ => trivial)
    rintro i σ H2 x ex ⟨⟨o2, o3, o4, o5, o6, o7, o8, o9, o10, o11, o12, o13, o14, o15, o16, o17, rfl⟩, d2⟩
    refine ⟨by show 0 ≤ sizeLine; decide, fun L hL => ?_⟩
    have pL : L ≠ p := by obtain ⟨_, _, z, _⟩ := d2; exact (ne_of_none z hL).symm
    have lL : L ≠ l := by obtain ⟨_, _, _, z, _⟩ := d2; exact (ne_of_none z hL).symm
    have d3 := d2.same (same_new hL (.lst []))
    have e3 : upd H2 L (.lst []) L = some (.lst []) := upd_same
    generalize upd H2 L (.lst []) = H3 at d3 e3 ⊢
    -- rows
    refine ⟨fun σ H' => ∃ o4 its rows, σ = [some (.ref a0), some (.ref p), some x, some (.ref L), o4, o5, o6, o7, o8, o9, o10, o11, o12, o13, o14, o15, o16, o17, none, none] ∧ DealAt H' p l ∧ H' L = some (.lst its) ∧ All2 (RowT H') its rows ∧ RkL rows ∧ (∀ r ∈ rows, Sm r) ∧ 0 < rows.length ∧ rows.length ≤ 8, ?_, ?_⟩
    · refine ⟨_, rfl, p, l, 8, rfl, ⟨by decide, by decide⟩, d3, fun d H4 d0 dd1 k4 d4 => ?_⟩
      refine ⟨_, _, rfl, rfl, 1 + d, rfl, by omega, by omega, ?_⟩
      refine for_sq (a := p) (wk_range (lo := 0) (n := (1 + d).toNat)) (fun i σ H' => ∃ o4 its rows, σ = [some (.ref a0), some (.ref p), some x, some (.ref L), o4, o5, o6, o7, o8, o9, o10, o11, o12, o13, o14, o15, o16, o17, none, none] ∧ DealAt H' p l ∧ H' L = some (.lst its) ∧ All2 (RowT H') its rows ∧ RkL rows ∧ (∀ r ∈ rows, Sm r) ∧ rows.length = i) ⟨o4, [], [], rfl, d4, k4 _ _ e3 pL lL, .nil, (fun i r e => by cases e), (fun r hr => by cases hr), rfl⟩ (fun _ _ _ _ => trivial) ?_ ?_
      · rintro i σ H5 y ey ⟨o4, its, rows, rfl, d5, e5, al5, rk, sm, nl⟩
        have hi : i < (1 + d).toNat := by
          have := (List.getElem?_eq_some_iff.mp ey).1
          simpa using this
        rw [List.getElem?_map, List.getElem?_range hi] at ey
        obtain rfl : V.int (i : Nat) = y := by rw [← Option.some.inj ey]; show _ = V.int (0 + (i : Nat)); rw [Int.zero_add]
        have hi8 : i < 8 := by omega
        refine ⟨_, rfl, .inl ⟨rfl, _, SqL.of e5⟩, _, rfl, _, rfl, p, l, i, rfl, d5, by omega, fun v r H6 k6 d6 rt6 rk6 sm6 => ⟨L, its, v, rfl, rfl, k6 _ _ e5 pL lL, by rw [al5.len, sizeLine_eq]; omega, ?_⟩⟩
        have f6 := k6.fix d5
        have f7 : Fix H6 (upd H6 L (.lst (its ++ [v]))) := Fix.lst (k6 _ _ e5 pL lL)
        refine ⟨_, its ++ [v], rows ++ [r], rfl, ?_, upd_same, (al5.imp fun _ _ h => (h.fix f6).fix f7).app (.cons (rt6.fix f7) .nil), ?_, ?_, by rw [List.length_append, nl]; rfl⟩
        · obtain ⟨ns', b, h1, h2, h3⟩ := d6
          exact ⟨ns', b, by rw [upd_ne pL.symm]; exact h1, by rw [upd_ne lL.symm]; exact h2, h3⟩
        · intro j s ej
          by_cases hj : j < rows.length
          · rw [List.getElem?_append_left hj] at ej; exact rk j s ej
          · have := (List.getElem?_eq_some_iff.mp ej).1
            rw [List.length_append] at this
            have hj : j = rows.length := by simp at this; omega
            subst hj
            rw [List.getElem?_append_right (Nat.le_refl _), Nat.sub_self] at ej
            cases ej
            rw [nl]; exact rk6
        · intro s hs
          rcases List.mem_append.mp hs with h | h
          · exact sm s h
          · rw [List.mem_singleton.mp h]; exact sm6
      · rintro σ H5 ⟨o4, its, rows, rfl, d5, e5, al5, rk, sm, nl⟩
        rw [List.length_map, List.length_range] at nl
        exact ⟨o4, its, rows, rfl, d5, e5, al5, rk, sm, by omega, by omega⟩
    rintro σ H5 ⟨o4, its, rows, rfl, d5, e5, al5, rk, sm, n0, n8⟩
    -- Stair, trees
    refine ⟨_, rfl, fun S sx hS hsx nes => ?_⟩
    have s56 := ins_same (C := C_Stair) hS hsx
    refine ⟨S, sx, L, its, rows, rfl, upd_same, SqL.of (s56 _ _ e5), al5.imp fun _ _ h => (h.fix (Fix.of s56)).row, n0, by omega, rk, fun H6 kS st6 => ⟨rfl, ?_⟩⟩
    have s6 : Same H5 H6 := fun b o e => kS b o (s56 b o e) (ne_of_none e hS)
    have e6 := s6 _ _ e5
    have al6 : All2 (RowT H6) its rows := al5.imp fun _ _ h => h.fix (Fix.of s6)
    refine ⟨_, rfl, L, its, rows, rfl, .inl e6, al6.imp fun _ _ h => h.row, rk, by omega, fun D ys H7 hD s7 eD7 dp7 => ⟨_, _, rfl, ?_⟩⟩
    have pD : D ≠ p := by obtain ⟨_, _, z, _⟩ := d5.same s6; exact (ne_of_none z hD).symm
    have lD : D ≠ l := by obtain ⟨_, _, _, z, _⟩ := d5.same s6; exact (ne_of_none z hD).symm
    have I7 : LI K C_Stair p l L S D its ys rows H7 := ⟨(d5.same s6).same s7, s7 _ _ e6, al6.imp fun _ _ h => h.fix (Fix.of s7), st6.same s7, eD7, dp7, rk, sm, n0, n8, pL, lL, pD, lD⟩
    have ylen : ys.length = rows.length := by rw [dpA_len dp7, trs_len]
    obtain ⟨tv, etv, htv⟩ := dpA_get dp7 (i := rows.length - 1) (d := lastT rows) (by
      unfold lastT tu
      rw [getD_lt (by rw [trs_len]; omega), List.getElem?_eq_getElem (by rw [trs_len]; omega)])
    have eys : ys = ys.take (rows.length - 1) ++ [tv] := by
      have z := take_snoc etv
      rwa [show rows.length - 1 + 1 = ys.length by omega, List.take_of_length_le (Nat.le_refl _)] at z
    clear s56 kS
    -- last, due
    refine ⟨_, rfl, _, _, rfl, rfl, D, ys, _, tv, rfl, rfl, SqL.of eD7, by rw [eys]; exact at_last, by show 0 ≤ sizeLine; decide, fun E' hE => ⟨_, _, rfl, ?_⟩⟩
    have I8 := I7.same (same_new hE (.lst []))
    have e8 : upd H7 E' (.lst []) E' = some (.lst []) := upd_same
    have htv8 := dp_fix (Fix.of (same_new hE (.lst []))) _ _ (gt_pu _ (Nat.le_refl _) (tr_gt rk.g (by omega))) htv
    generalize upd H7 E' (.lst []) = H8 at I8 e8 htv8
    have pE : E' ≠ p := by obtain ⟨_, _, z, _⟩ := I7.deal; exact (ne_of_none z hE).symm
    have lE : E' ≠ l := by obtain ⟨_, _, _, z, _⟩ := I7.deal; exact (ne_of_none z hE).symm
    have DE : D ≠ E' := ne_of_none I7.eD hE
    have LE : L ≠ E' := ne_of_none I7.eL hE
    refine ⟨fun σ H' => ∃ o4 o9, σ = [some (.ref a0), some (.ref p), some x, some (.ref L), o4, some (.ref S), some (.ref D), some tv, some (.ref E'), o9, o10, o11, o12, o13, o14, o15, o16, o17, none, none] ∧ LI K C_Stair p l L S D its ys rows H' ∧ Dp K H' tv (lastT rows) ∧ ∃ es, H' E' = some (.lst es) ∧ DpAll K H' es (dueL (trs rows) (lastT rows) rows.length), ?_, ?_⟩
    · refine .inl ⟨_, rfl, D, ys, rfl, SqL.of I8.eD, ?_⟩
      have trA := tr_all rk.g n8
      refine for_en en_list (fun i σ H' => ∃ o4 o9, σ = [some (.ref a0), some (.ref p), some x, some (.ref L), o4, some (.ref S), some (.ref D), some tv, some (.ref E'), o9, o10, o11, o12, o13, o14, o15, o16, o17, none, none] ∧ LI K C_Stair p l L S D its ys rows H' ∧ Dp K H' tv (lastT rows) ∧ ∃ es, H' E' = some (.lst es) ∧ DpAll K H' es (dueL (trs rows) (lastT rows) i)) ⟨o4, o9, rfl, I8, htv8, [], e8, .nil⟩ (fun i σ H' p => let ⟨_, _, _, I, _⟩ := p; SqL.of I.eD) ?_ ?_
      · rintro i σ H10 y T ey ⟨o4, o9, rfl, I10, htv10, es, e10, hes10⟩ hT
        have li : i < rows.length := by rw [← ylen]; exact (List.getElem?_eq_some_iff.mp ey).1
        have s11 := same_new hT (.tup [.int (i : Nat), y])
        have eT : upd H10 T (.tup [.int (i : Nat), y]) T = some (.tup [.int (i : Nat), y]) := upd_same
        generalize upd H10 T (.tup [.int (i : Nat), y]) = H11 at s11 eT ⊢
        have I11 := I10.same s11
        have plast := gt_pu _ (Nat.le_refl _) (tr_gt rk.g (k := rows.length - 1) (by omega))
        have htv11 := dp_fix (Fix.of s11) _ _ plast htv10
        have e11 := s11 _ _ e10
        have pdue : puA (dueL (trs rows) (lastT rows) i) = true := puA_iff.mpr fun d hd => gt_pu _ (Nat.le_refl _) (trA d (due_sub i (by rw [trs_len]; omega) d hd)).1
        have hes11 := dpA_fix (Fix.of s11) _ _ pdue hes10
        refine ⟨T, _, rfl, SqT.of eT, rfl, _, _, rfl, _, _, rfl, rfl, ?_⟩
        refine ⟨_, rfl, _, rfl, _, rfl, (i : Nat), rfl, D, ys, rfl, SqL.of I11.eD, fun q0 hq0 => ?_⟩
        have s12 := same_new hq0 (.lst (cutV ys none (some (i : Nat))))
        have e12 : upd H11 q0 (.lst (cutV ys none (some (i : Nat)))) q0 = some (.lst (ys.take i)) := by rw [upd_same, cut_take (by omega)]
        generalize upd H11 q0 (.lst (cutV ys none (some (i : Nat)))) = H12 at s12 e12 ⊢
        have I12 := I11.same s12
        have htv12 := dp_fix (Fix.of s12) _ _ plast htv11
        have e12' := s12 _ _ e11
        have hes12 := dpA_fix (Fix.of s12) _ _ pdue hes11
        obtain ⟨ty, ety, hty⟩ := dpA_getV I12.dp ey
        have ety' : (trs rows).getD i .none = ty := by rw [List.getD_eq_getElem?_getD, ety]; rfl
        have gty := trA ty (at_mem ety)
        have st := due_step (trs rows) (lastT rows) i
        rw [ety'] at st
        refine rd_notIn hty gty.1 gty.2 (SqL.of e12) (dpA_take I12.dp i) (fun d hd => trA d (List.mem_of_mem_take hd)) ⟨_, rfl, ?_⟩
        cases hh : hasE ((trs rows).take i) ty with
        | true =>
          rw [hh] at st
          refine iteF (iteF ⟨_, _, rfl, I12, htv12, es, e12', ?_⟩)
          rw [st]; exact hes12
        | false =>
          rw [hh] at st
          refine iteT ⟨_, rfl, _, rfl, y, tv, ty, lastT rows, rfl, hty, htv12, gty.1, tr_gt rk.g (by omega), Nat.le_trans gty.2 (by decide), Nat.le_trans (tr_depth rk.g n8 (by omega)) (by decide), by decide, fun H13 s13 => ⟨_, rfl, ?_⟩⟩
          have I13 := I12.same s13
          have htv13 := dp_fix (Fix.of s13) _ _ plast htv12
          have e13 := s13 _ _ e12'
          have hes13 := dpA_fix (Fix.of s13) _ _ pdue hes12
          have hty13 := dp_fix (Fix.of s13) _ _ (gt_pu _ (Nat.le_refl _) gty.1) hty
          cases hw : wi ty (lastT rows) with
          | false =>
            rw [hw] at st
            refine iteF ⟨_, _, rfl, I13, htv13, es, e13, ?_⟩
            rw [st]; exact hes13
          | true =>
            rw [hw] at st
            have st : dueL (trs rows) (lastT rows) (i + 1) = dueL (trs rows) (lastT rows) i ++ [ty] := st
            have f14 : Fix H13 (upd H13 E' (.lst (es ++ [y]))) := Fix.lst e13
            refine iteT ⟨_, rfl, .inl ⟨rfl, _, SqL.of e13⟩, _, rfl, E', es, y, rfl, rfl, e13, ?_, ?_⟩
            · rw [dpA_len hes13, sizeLine_eq]
              have := due_len (ts := trs rows) (l := lastT rows) i
              omega
            · refine ⟨_, _, rfl, I13.put e13 pE lE LE DE, dp_fix f14 _ _ plast htv13, _, upd_same, ?_⟩
              rw [st]
              exact dpA_app (dpA_fix f14 _ _ pdue hes13) (.cons (dp_fix f14 _ _ (gt_pu _ (Nat.le_refl _) gty.1) hty13) .nil)
      · rintro σ H9 ⟨o4, o9, rfl, I9, htv9, es, e9, hes9⟩
        rw [ylen] at hes9
        exact ⟨o4, o9, rfl, I9, htv9, es, e9, hes9⟩
    rintro σ H9 ⟨o4, o9, rfl, I9, htv9, es, e9, hes9⟩
    -- tidy
    have td := tidyR_is rk.g n0
    have rk2 := tidy_rk rk n0
    have plast := gt_pu _ (Nat.le_refl _) (tr_gt rk.g (k := rows.length - 1) (by omega))
    have trA := tr_all rk.g n8
    refine ⟨_, rfl, .ref S, rows, rfl, I9.st, rk, n0, by omega, fun x2 H10 s10 st10 => ?_⟩
    generalize tidyR rows = v at td rk2 st10
    have v8 : v.length ≤ 8 := Nat.le_trans td.le n8
    have trB := tr_all rk2.g v8
    obtain ⟨S2, dx2, ra2, its2, rfl, ex2, era2, hR2⟩ := id st10
    have pdue : puA (dueL (trs rows) (lastT rows) rows.length) = true := puA_iff.mpr fun d hd => gt_pu _ (Nat.le_refl _) (trA d (due_sub _ (by rw [trs_len]; omega) d hd)).1
    have hes10 := dpA_fix (Fix.of s10) _ _ pdue hes9
    rw [← td.due] at hes10
    have I10 := I9.same s10
    have e10 := s10 _ _ e9
    have htv10 := dp_fix (Fix.of s10) _ _ plast htv9
    refine ⟨fun σ H' => σ = [some (.ref a0), some (.ref p), some x, some (.ref L), o4, some (.ref S), some (.ref D), some tv, some (.ref E'), o9, some (.ref S2), o11, o12, o13, o14, o15, o16, o17, none, none] ∧ Same H10 H', ?_, ?_⟩
    · refine ⟨_, rfl, .ref S2, .ref C_Stair, _, _, true, rfl, .own C_Stair, .base (.ins ex2 TC.cl TC.x1 TC.x2 TC.x3 TC.x4), TC.kC, true, rfl, iteF ?_⟩
      refine ⟨_, rfl, S2, _, dx2, _, _, rfl, ex2, TC.cl, TC.nR, fl_rows _, ra2, its2, rfl, .inr (SqT.of era2), _, rfl, E', es, rfl, .inl (SqL.of e10), rfl, _, rfl, iteN (fun c => absurd (congrArg (fun n : Nat => V.int n) ?_) c) fun _ => ?_⟩
      · rw [hR2.len, dpA_len hes10, trs_len]
      refine ⟨_, rfl, S2, _, dx2, _, _, rfl, ex2, TC.cl, TC.nR, fl_rows _, ra2, its2, v, rfl, .inr era2, hR2, rk2, by omega, fun D2 zs H11 _ s11 e11 dp11 => ⟨_, rfl, ?_⟩⟩
      refine rd_neSame (SqL.of e11) dp11 (SqL.of (s11 _ _ e10)) (dpA_fix (Fix.of s11) _ _ (puA_iff.mpr (trs_pu rk2.g)) hes10) trB ⟨_, rfl, iteF ⟨rfl, s11⟩⟩
    rintro σ H11 ⟨rfl, s11⟩
    have I11 := I10.same s11
    have st11 := st10.same s11
    have htv11 := dp_fix (Fix.of s11) _ _ plast htv10
    clear hes10 hes9 ex2 era2 hR2
    refine ⟨fun σ H' => σ = [some (.ref a0), some (.ref p), some x, some (.ref L), o4, some (.ref S), some (.ref D), some tv, some (.ref E'), o9, some (.ref S2), o11, o12, o13, o14, o15, o16, o17, none, none] ∧ Same H11 H', ?_, ?_⟩
    · refine ⟨_, rfl, rfl, rfl, .ref S2, v, rfl, st11, rk2, td.pos, by omega, fun x3 H12 s12 st12 => ?_⟩
      rw [td.idem] at st12
      obtain ⟨S3, dx3, ra3, its3, rfl, ex3, era3, hR3⟩ := id st12
      obtain ⟨S2', dx2', ra2', its2', e2', ex2', era2', hR2'⟩ := id (st11.same s12)
      injection e2' with e2'
      subst e2'
      refine ⟨_, rfl, S3, dx3, _, S2, rfl, rfl, ex3, .inl ⟨_, _, ex2'⟩, .ref S3, .ref S2, v, rfl, st12, st11.same s12, rk2.g, ⟨_, rfl⟩, _, rfl, iteF ?_⟩
      have I12 := I11.same s12
      obtain ⟨Sx, dxx, rax, itx, eSx, exx, erax, hRx⟩ := I12.st
      injection eSx with eSx
      subst eSx
      have rp := rp_rows rk sm (by omega)
      refine ⟨_, rfl, S, _, dxx, _, _, rfl, exx, TC.cl, TC.nR, fl_rows _, _, _, rfl, .tup (SqT.of erax) (dp_rows hRx), rp.sh, rp.nd, rp.dp, rp.ln, ?_⟩
      refine ⟨_, rfl, L, its, rfl, .inl ⟨SqL.of I12.eL, fun q0 hq0 => ?_⟩⟩
      have s13 := same_new hq0 (.tup its)
      refine ⟨_, _, rfl, .tup (SqT.of upd_same) (dp_rows (I12.al.imp fun _ _ h => (h.fix (Fix.of s13)).row)), rp.sh, rp.nd, rp.dp, rp.ln, rfl, _, rfl, ?_⟩
      exact iteN (fun c => absurd rfl c) fun _ => ⟨rfl, s12.trans s13⟩
    rintro σ H12 ⟨rfl, s12⟩
    have I12 := I11.same s12
    have st12 := st11.same s12
    have htv12 := dp_fix (Fix.of s12) _ _ plast htv11
    -- things, bells
    refine ⟨by show 0 ≤ sizeLine; decide, fun A0 hA0 => ⟨by show 0 ≤ sizeLine; decide, fun B0 hB0 => ⟨by show 2 ≤ sizeLine; decide, fun T0 hT0 => ?_⟩⟩⟩
    have sA := same_new hA0 (.lst [])
    have sB := same_new hB0 (.lst [])
    have sT := same_new hT0 (.tup [.ref A0, .ref B0])
    have eA : upd (upd (upd H12 A0 (.lst [])) B0 (.lst [])) T0 (.tup [.ref A0, .ref B0]) A0 = some (.lst []) := sT _ _ (sB _ _ upd_same)
    have eB : upd (upd (upd H12 A0 (.lst [])) B0 (.lst [])) T0 (.tup [.ref A0, .ref B0]) B0 = some (.lst []) := sT _ _ upd_same
    have eT : upd (upd (upd H12 A0 (.lst [])) B0 (.lst [])) T0 (.tup [.ref A0, .ref B0]) T0 = some (.tup [.ref A0, .ref B0]) := upd_same
    have sABT := (sA.trans sB).trans sT
    generalize upd (upd (upd H12 A0 (.lst [])) B0 (.lst [])) T0 (.tup [.ref A0, .ref B0]) = H13 at sABT eA eB eT ⊢
    clear sA sB sT hA0 hB0 hT0
    refine ⟨T0, _, rfl, SqT.of eT, rfl, _, _, rfl, _, _, rfl, rfl, ?_⟩
    have I13 := I12.same sABT
    have st13 := st12.same sABT
    have htv13 := dp_fix (Fix.of sABT) _ _ plast htv12
    refine ⟨fun σ H' => ∃ A B o13, σ = [some (.ref a0), some (.ref p), some x, some (.ref L), o4, some (.ref S), some (.ref D), some tv, some (.ref E'), o9, some (.ref S2), some (.ref A), some (.ref B), o13, o14, o15, o16, o17, none, none] ∧ Same H13 H' ∧ H' A = some (.lst ((rows.flatMap lthR).map V.str)) ∧ H' B = some (.lst ((rows.flatMap lblR).map V.str)), ?_, ?_⟩
    · refine ⟨_, rfl, L, its, rfl, SqX.lst I13.eL, fun J Sx W k => ?_⟩
      refine for_sq W (fun i σ H' => ∃ A B o13, σ = [some (.ref a0), some (.ref p), some x, some (.ref L), o4, some (.ref S), some (.ref D), some tv, some (.ref E'), o9, some (.ref S2), some (.ref A), some (.ref B), o13, o14, o15, o16, o17, none, none] ∧ Same H13 H' ∧ H' A = some (.lst (((rows.take i).flatMap lthR).map V.str)) ∧ H' B = some (.lst (((rows.take i).flatMap lblR).map V.str))) ⟨A0, B0, o13, rfl, Same.refl _, eA, eB⟩ (fun i σ H' p => W.keep (fun o e => let ⟨_, _, _, _, s, _⟩ := p; s _ _ e) k) ?_ ?_
      · rintro i σ H14 y ey ⟨A, B, o13, rfl, s14, eA, eB⟩
        obtain ⟨d, ed, hd⟩ := I13.al.get ey
        have rkd := rk i d ed
        have smd := sm d (at_mem ed)
        obtain ⟨ya, rfl, hda⟩ := hd.fix (Fix.of s14)
        have tk : ∀ f : Rw → List Str, (rows.take (i + 1)).flatMap f = (rows.take i).flatMap f ++ f d := fun f => by rw [take_snoc ed, List.flatMap_append]; simp
        have il : (rows.take i).length ≤ 8 := by rw [List.length_take]; omega
        have lt := fun (f : Rw → List Str) (hf : ∀ r, (f r).length ≤ r.as.length) => flat_len (rows.take i) (fun r hr => by
          obtain ⟨n, h⟩ := rk.wf r (List.mem_of_mem_take hr)
          have := frm_len r.w
          have := hf r
          rw [h.ok.ln] at this
          omega : ∀ r ∈ rows.take i, (f r).length ≤ 2)
        refine ⟨_, rfl, ya, _, _, _, rfl, rfl, SqT.of hda, at0, rfl, _, rfl, iteD (fun e => ?_) fun e => ?_⟩
        · injection e with e
          have has := smd.bell e
          have e1 : lblR d = [("cat" : Str)] := by unfold lblR; rw [if_pos e, has]; rfl
          have e2 : lthR d = [] := by unfold lthR; rw [if_neg (by rw [e]; decide +kernel)]
          have hd' : H14 ya = some (.tup [.str d.w, .str "cat"]) := by unfold rowV at hda; rw [has] at hda; exact hda
          refine ⟨_, rfl, _, rfl, ya, _, _, _, rfl, rfl, SqT.of hd', at1, by show 1 ≤ sizeLine; decide, fun q0 hq0 => ?_⟩
          have s15 := same_new hq0 (.lst [.str "cat"])
          refine ⟨B, q0, _, _, rfl, rfl, s15 _ _ eB, upd_same, ?_, fun B' hB' => ?_⟩
          · have := lt lblR fun r => by unfold lblR; split; exact List.length_filterMap_le _ _; exact Nat.zero_le _
            rw [List.length_map, List.length_singleton, sizeLine_eq]; omega
          have s16 := same_new hB' (.lst (((rows.take i).flatMap lblR).map V.str ++ [.str "cat"]))
          refine ⟨A, B', _, rfl, (s14.trans s15).trans s16, ?_, ?_⟩
          · rw [tk, e2, List.append_nil]; exact s16 _ _ (s15 _ _ eA)
          · rw [upd_same, tk, e1, List.map_append]; rfl
        · have e0 : ¬ d.w = "rings" := fun z => e (congrArg V.str z)
          have e1 : lblR d = [] := by unfold lblR; rw [if_neg e0]
          refine ⟨_, rfl, ya, _, _, _, rfl, rfl, SqT.of hda, at0, by show 3 ≤ sizeLine; decide, fun q0 hq0 => ?_⟩
          have s15 := same_new hq0 (.tup [.str "above", .str "rises", .str "falls"])
          have e15 : upd H14 q0 (.tup [.str "above", .str "rises", .str "falls"]) q0 = some (.tup [.str "above", .str "rises", .str "falls"]) := upd_same
          generalize upd H14 q0 (.tup [.str "above", .str "rises", .str "falls"]) = H15 at s15 e15 ⊢
          refine in_strs (ns := atom3) (.inr (SqT.of e15)) ⟨_, rfl, iteD (fun c => ?_) fun c => ?_⟩
          · have e2 : lthR d = d.as.filterMap nmOf := by unfold lthR; rw [if_pos c]
            refine ⟨_, rfl, _, rfl, 1, rfl, ?_⟩
            refine rd_tailP (SqT.of (s15 _ _ hda)) fun p1 H16 hp1 s16 e16 => ?_
            refine ⟨p1, _, rfl, .inr (SqT.of e16), fun J S W k D1 hD1 => ?_⟩
            refine lc_mf (ds := d.as) W (fun z => z.isRight) (fun _ y z => y = kV z) k hD1 (by rw [List.length_map]) (fun j y z H17 ey ez s17 m => ?_) (fun H17 zs s17 e17 al => ?_)
            · obtain rfl := at_map ey ez
              have zl : d.as.length ≤ 100000 := by have := frm_len d.w; rw [rkd.ok.ln]; omega
              refine ⟨rfl, _, rfl, ?_⟩
              cases z with
              | inl n => exact ⟨_, _, _, _, false, rfl, .ty "str", .base (.int n), kit_ty (r := false) (by decide +kernel), _, rfl, iteF (mf_no m (fun _ _ _ _ _ h => h) ez (Same.refl _) rfl)⟩
              | inr n => exact ⟨_, _, _, _, true, rfl, .ty "str", .base (.str n), kit_ty (r := true) (by decide +kernel), _, rfl, iteT ⟨_, rfl, mf_yes m hD1 (fun _ _ _ _ _ h => h) ez zl (Same.refl _) rfl rfl⟩⟩
            · obtain rfl := al.map_eq fun _ _ h => h
              rw [filt_nm] at e17
              have s47 := (s15.trans s16).trans s17
              refine ⟨A, D1, _, _, rfl, rfl, s47 _ _ eA, e17, ?_, fun A' hA' => ?_⟩
              · have h1 := lt lthR fun r => by unfold lthR; split; exact List.length_filterMap_le _ _; exact Nat.zero_le _
                have h2 := List.length_filterMap_le nmOf d.as
                have := frm_len d.w
                rw [rkd.ok.ln] at h2
                rw [List.length_map, List.length_map, sizeLine_eq]; omega
              have s18 := same_new hA' (.lst (((rows.take i).flatMap lthR).map V.str ++ (d.as.filterMap nmOf).map V.str))
              refine ⟨A', B, _, rfl, (s14.trans s47).trans s18, ?_, ?_⟩
              · rw [upd_same, tk, e2, List.map_append]
              · rw [tk, e1, List.append_nil]; exact s18 _ _ (s47 _ _ eB)
          · have e2 : lthR d = [] := by unfold lthR; rw [if_neg c]
            refine ⟨A, B, _, rfl, s14.trans s15, ?_, ?_⟩
            · rw [tk, e2, List.append_nil]; exact s15 _ _ eA
            · rw [tk, e1, List.append_nil]; exact s15 _ _ eB
      · rintro σ H14 ⟨A, B, o13, rfl, s14, eA, eB⟩
        rw [List.take_of_length_le (by rw [I13.al.len]; exact Nat.le_refl _)] at eA eB
        exact ⟨A, B, o13, rfl, s14, eA, eB⟩
    rintro σ H14 ⟨A, B, o13, rfl, s14, eA, eB⟩
    have I14 := I13.same s14
    have st14 := st13.same s14
    have htv14 := dp_fix (Fix.of s14) _ _ plast htv13
    have TL := thL_law rk
    have BL := blL_law rk
    have mA := th_mem sm
    have mB := bl_mem sm
    have nmA : ∀ y ∈ rows.flatMap lthR, IsNm y := fun y hy => (mA y hy).elim (fun e => e ▸ nm_cat) fun e => e ▸ nm_dog
    have nmB : ∀ y ∈ rows.flatMap lblR, IsNm y := fun y hy => mB y hy ▸ nm_cat
    -- names
    refine ⟨fun σ H' => ∃ T u1 u2, σ = [some (.ref a0), some (.ref p), some x, some (.ref L), o4, some (.ref S), some (.ref D), some tv, some (.ref E'), o9, some (.ref S2), some (.ref A), some (.ref B), o13, some (.ref T), o15, o16, o17, none, none] ∧ Same H14 H' ∧ H' T = some (.tup [.ref u1, .ref u2]) ∧ H' u1 = some (.tup ((lotS (thL rows)).map V.str)) ∧ H' u2 = some (.tup ((lotS (blL rows)).map V.str)), ?_, ?_⟩
    · refine ⟨by show 2 ≤ sizeLine; decide, fun q0 hq0 => ?_⟩
      have s15 := same_new hq0 (.lst [.str "cat", .str "dog"])
      have e15 : upd H14 q0 (.lst [.str "cat", .str "dog"]) q0 = some (.lst ([("cat" : Str), "dog"].map V.str)) := upd_same
      generalize upd H14 q0 (.lst [.str "cat", .str "dog"]) = H15 at s15 e15 ⊢
      refine ⟨q0, _, rfl, SqX.lst e15, fun J Sx W k D1 hD1 => ?_⟩
      refine lc_mf (ds := [("cat" : Str), "dog"]) W (fun z => decide (z ∈ rows.flatMap lthR)) (fun _ y z => y = .str z) k hD1 rfl (fun j y z H16 ey ez s16 m => ?_) (fun H16 zs s16 e16 al => ?_)
      · obtain rfl := at_map ey ez
        refine ⟨rfl, _, rfl, _, rfl, in_strs (ns := rows.flatMap lthR) (SqX.lst (s16 _ _ (s15 _ _ eA))) ⟨_, rfl, ?_⟩⟩
        cases hz : decide (z ∈ rows.flatMap lthR) with
        | true => exact iteT ⟨_, rfl, mf_yes m hD1 (fun _ _ _ _ _ h => h) ez (by decide) (Same.refl _) hz rfl⟩
        | false => exact iteF (mf_no m (fun _ _ _ _ _ h => h) ez (Same.refl _) hz)
      · obtain rfl := al.map_eq fun _ _ h => h
        rw [two_lot mA, ← TL] at e16
        refine ⟨D1, _, rfl, .inl ⟨SqL.of e16, fun u1 hu1 => ?_⟩⟩
        have s17 := same_new hu1 (.tup ((lotS (thL rows)).map V.str))
        have e17 : upd H16 u1 (.tup ((lotS (thL rows)).map V.str)) u1 = some (.tup ((lotS (thL rows)).map V.str)) := upd_same
        generalize upd H16 u1 (.tup ((lotS (thL rows)).map V.str)) = H17 at s17 e17 ⊢
        have s47 := (s15.trans s16).trans s17
        refine ⟨_, rfl, by show 0 ≤ sizeLine; decide, fun q1 hq1 => ?_⟩
        have s18 := same_new hq1 (.lst [])
        refine ⟨_, _, .lst (SqL.of (s18 _ _ (s47 _ _ eB))) (dp_strs _), .lst (SqL.of upd_same) .nil, shp_strs (fun y hy => nm_ok (nmB y hy)), shp_ints [], _, rfl, ?_⟩
        rw [eqv_nilS]
        have s48 := s47.trans s18
        replace e17 := s18 _ _ e17
        generalize upd H17 q1 (.lst []) = H18 at s48 e17 ⊢
        have ol := one_lot mB
        rw [← BL] at ol
        refine iteN (fun c => ?_) fun c => ?_
        · rw [← BL] at c
          rw [if_neg c] at ol
          refine ⟨by show 1 ≤ sizeLine; decide, fun q2 hq2 => ?_⟩
          have s19 := same_new hq2 (.lst [.str "cat"])
          refine ⟨q2, _, rfl, .inl ⟨SqL.of upd_same, fun u2 hu2 => ?_⟩⟩
          have s20 := same_new hu2 (.tup [V.str "cat"])
          refine ⟨by show 2 ≤ sizeLine; decide, fun T hT => ?_⟩
          have s21 := same_new hT (.tup [V.ref u1, .ref u2])
          refine ⟨T, u1, u2, rfl, ((s48.trans s19).trans s20).trans s21, upd_same, s21 _ _ (s20 _ _ (s19 _ _ e17)), ?_⟩
          rw [← ol]
          exact s21 _ _ upd_same
        · rw [← BL] at c
          rw [if_pos c] at ol
          refine ⟨by show 0 ≤ sizeLine; decide, fun q2 hq2 => ?_⟩
          have s19 := same_new hq2 (.lst [])
          refine ⟨q2, _, rfl, .inl ⟨SqL.of upd_same, fun u2 hu2 => ?_⟩⟩
          have s20 := same_new hu2 (.tup [])
          refine ⟨by show 2 ≤ sizeLine; decide, fun T hT => ?_⟩
          have s21 := same_new hT (.tup [V.ref u1, .ref u2])
          refine ⟨T, u1, u2, rfl, ((s48.trans s19).trans s20).trans s21, upd_same, s21 _ _ (s20 _ _ (s19 _ _ e17)), ?_⟩
          rw [← ol]
          exact s21 _ _ upd_same
    rintro σ H15 ⟨T, u1, u2, rfl, s15, eT15, eu1, eu2⟩
    have I15 := I14.same s15
    have st15 := st14.same s15
    have htv15 := dp_fix (Fix.of s15) _ _ plast htv14
    have rpn : Rp (.tuple [.tuple ((lotS (thL rows)).map .str), .tuple ((lotS (blL rows)).map .str)]) := by
      have l1 := thL_len rows
      have l2 := blL_len rows
      refine rp_names (fun y hy => nmA y ?_) (fun y hy => nmB y ?_) (Nat.le_trans (len_lotS _) (by omega)) (Nat.le_trans (len_lotS _) (by omega))
      · rw [← TL]; exact mem_lotS.mp hy
      · rw [← BL]; exact mem_lotS.mp hy
    refine ⟨fun σ H' => σ = [some (.ref a0), some (.ref p), some x, some (.ref L), o4, some (.ref S), some (.ref D), some tv, some (.ref E'), o9, some (.ref S2), some (.ref A), some (.ref B), o13, some (.ref T), o15, o16, o17, none, none] ∧ Same H15 H', ?_, ?_⟩
    · refine ⟨_, rfl, .ref S, rows, rfl, I15.st, rk, by omega, fun pp a b H16 s16 e1 e2 e3 => ?_⟩
      refine ⟨_, _, rfl, .tup (SqT.of e1) (.cons (.tup (SqT.of e2) (dp_strs _)) (.cons (.tup (SqT.of e3) (dp_strs _)) .nil)), rpn.sh, rpn.nd, rpn.dp, rpn.ln, ?_⟩
      refine ⟨_, rfl, _, _, rfl, .tup (SqT.of (s16 _ _ eT15)) (.cons (.tup (SqT.of (s16 _ _ eu1)) (dp_strs _)) (.cons (.tup (SqT.of (s16 _ _ eu2)) (dp_strs _)) .nil)), rpn.sh, rpn.nd, rpn.dp, rpn.ln, rfl, _, rfl, ?_⟩
      exact iteN (fun c => absurd rfl c) fun _ => ⟨rfl, s16⟩
    rintro σ H16 ⟨rfl, s16⟩
    have I16 := I15.same s16
    have st16 := st15.same s16
    have htv16 := dp_fix (Fix.of s16) _ _ plast htv15
    clear eA eB eT15 eu1 eu2 st11 st12 st13 st14 st15 I10 I11 I12 I13 I14 I15 htv10 htv11 htv12 htv13 htv14 htv15
    -- words
    refine ⟨by show 0 ≤ sizeLine; decide, fun W0 hW0 => ?_⟩
    have s17 := same_new hW0 (.lst [])
    have eW : upd H16 W0 (.lst []) W0 = some (.lst []) := upd_same
    generalize upd H16 W0 (.lst []) = H17 at s17 eW ⊢
    have I17 := I16.same s17
    have LW : L ≠ W0 := ne_of_none I16.eL hW0
    refine ⟨fun σ H' => ∃ o13, σ = [some (.ref a0), some (.ref p), some x, some (.ref L), o4, some (.ref S), some (.ref D), some tv, some (.ref E'), o9, some (.ref S2), some (.ref A), some (.ref B), o13, some (.ref T), some (.ref W0), o16, o17, none, none] ∧ Same H16 H' ∧ H' W0 = some (.lst ((rows.map (·.w)).map V.str)), ?_, ?_⟩
    · refine ⟨_, rfl, L, its, rfl, SqX.lst I17.eL, fun J Sx W k => ?_⟩
      refine for_sq W (fun i σ H' => ∃ o13, σ = [some (.ref a0), some (.ref p), some x, some (.ref L), o4, some (.ref S), some (.ref D), some tv, some (.ref E'), o9, some (.ref S2), some (.ref A), some (.ref B), o13, some (.ref T), some (.ref W0), o16, o17, none, none] ∧ Same H16 H' ∧ Kept W0 H17 H' ∧ H' W0 = some (.lst (((rows.take i).map (·.w)).map V.str))) ⟨o13, rfl, s17, Kept.refl _ _, eW⟩ (fun i σ H' p => W.keep (fun o e => let ⟨_, _, _, kk, _⟩ := p; kk _ _ e LW) k) ?_ ?_
      · rintro i σ H18 y ey ⟨o13, rfl, s18, k18, e18⟩
        obtain ⟨d, ed, hd⟩ := I16.al.get ey
        obtain ⟨ya, rfl, hda⟩ := hd.fix (Fix.of s18)
        refine ⟨_, rfl, .inl ⟨rfl, _, SqL.of e18⟩, _, rfl, ya, _, _, _, rfl, rfl, SqT.of hda, at0, W0, _, _, rfl, rfl, e18, by rw [List.length_map, List.length_map, List.length_take, sizeLine_eq]; omega, ?_⟩
        refine ⟨_, rfl, fun b o e => ?_, k18.trans kept_upd, ?_⟩
        · rw [upd_ne (ne_of_none e hW0)]; exact s18 _ _ e
        · rw [upd_same, take_snoc ed, List.map_append, List.map_append]; rfl
      · rintro σ H18 ⟨o13, rfl, s18, k18, e18⟩
        rw [List.take_of_length_le (by rw [I16.al.len]; exact Nat.le_refl _)] at e18
        exact ⟨o13, rfl, s18, e18⟩
    rintro σ H18 ⟨o13, rfl, s18, e18⟩
    have I18 := I16.same s18
    have st18 := st16.same s18
    have htv18 := dp_fix (Fix.of s18) _ _ plast htv16
    have rb := fun b => rp_bool b
    refine ⟨fun σ H' => σ = [some (.ref a0), some (.ref p), some x, some (.ref L), o4, some (.ref S), some (.ref D), some tv, some (.ref E'), o9, some (.ref S2), some (.ref A), some (.ref B), o13, some (.ref T), some (.ref W0), o16, o17, none, none] ∧ Same H18 H', ?_, ?_⟩
    · refine ⟨_, rfl, .ref S, rows, rfl, I18.st, by omega, fun H19 s19 => ?_⟩
      refine ⟨_, _, rfl, .bl _, (rb _).sh, (rb _).nd, (rb _).dp, (rb _).ln, ?_⟩
      have e19 : SqX K H19 W0 ((rows.map (·.w)).map V.str) := SqX.lst (s19 _ _ e18)
      have tl := tless_ws rows
      refine ⟨_, rfl, nin_strs (ns := rows.map fun r : Rw => r.w) e19 ⟨_, rfl, ?_⟩⟩
      cases ha : decide (("soon" : Str) ∈ rows.map (·.w)) with
      | true =>
        rw [ha] at tl
        have tl : tless rows = false := tl
        refine iteF ⟨_, _, rfl, .bl _, (rb _).sh, (rb _).nd, (rb _).dp, (rb _).ln, rfl, _, rfl, ?_⟩
        exact iteN (fun c => absurd (by rw [tl]) c) fun _ => ⟨rfl, s19⟩
      | false =>
        rw [ha] at tl
        have tl : tless rows = !decide (("lately" : Str) ∈ rows.map (·.w)) := tl
        refine iteT ⟨_, rfl, nin_strs (ns := rows.map fun r : Rw => r.w) e19 ⟨_, _, rfl, .bl _, (rb _).sh, (rb _).nd, (rb _).dp, (rb _).ln, rfl, _, rfl, ?_⟩⟩
        exact iteN (fun c => absurd (by rw [tl]) c) fun _ => ⟨rfl, s19⟩
    rintro σ H19 ⟨rfl, s19⟩
    have I19 := I18.same s19
    have st19 := st18.same s19
    have htv19 := dp_fix (Fix.of s19) _ _ plast htv18
    -- told
    have glast : gt (lastT rows) = true := tr_gt rk.g (k := rows.length - 1) (by omega)
    have dlast : (lastT rows).depth ≤ 9 := tr_depth rk.g n8 (k := rows.length - 1) (by omega)
    have wlen : (ws (lastT rows)).length ≤ 256 := by
      have := ws_len rk.g rows.length (rows.length - 1) (by omega) (by omega)
      have h2 : 2 ^ (rows.length - 1 + 1) ≤ 2 ^ 8 := Nat.pow_le_pow_right (by decide) (by omega)
      exact Nat.le_of_lt (Nat.lt_of_lt_of_le this h2)
    refine ⟨_, rfl, by show 0 ≤ sizeLine; decide, fun W1 hW1 => ?_⟩
    have s20 := same_new hW1 (.lst [])
    refine ⟨tv, lastT rows, W1, [], rfl, dp_fix (Fix.of s20) _ _ plast htv19, glast, by omega, upd_same, by simp; omega, fun H21 k21 e21 => ?_⟩
    have s21 : Same H19 H21 := fun b o e => k21 b o (s20 _ _ e) (ne_of_none e hW1)
    have I21 := I19.same s21
    have st21 := st19.same s21
    have htv21 := dp_fix (Fix.of s21) _ _ plast htv19
    have e21 : H21 W1 = some (.lst ((ws (lastT rows)).map V.str)) := e21
    clear k21 s20
    refine ⟨fun σ H' => σ = [some (.ref a0), some (.ref p), some x, some (.ref L), o4, some (.ref S), some (.ref D), some tv, some (.ref E'), o9, some (.ref S2), some (.ref A), some (.ref B), o13, some (.ref T), some (.ref W0), some (.ref W1), o17, none, none] ∧ Same H21 H', ?_, ?_⟩
    · refine ⟨_, rfl, .ref S2, v, rfl, st21, by omega, fun H22 s22 => ?_⟩
      refine ⟨_, _, rfl, .bl _, (rb _).sh, (rb _).nd, (rb _).dp, (rb _).ln, ?_⟩
      have e22 : SqX K H22 W1 ((ws (lastT rows)).map V.str) := SqX.lst (s22 _ _ e21)
      have tl := tless_tidy td
      refine ⟨_, rfl, nin_strs (ns := ws (lastT rows)) e22 ⟨_, rfl, ?_⟩⟩
      cases ha : decide (("soon" : Str) ∈ ws (lastT rows)) with
      | true =>
        rw [ha] at tl
        have tl : tless v = false := tl
        refine iteF ⟨_, _, rfl, .bl _, (rb _).sh, (rb _).nd, (rb _).dp, (rb _).ln, rfl, _, rfl, ?_⟩
        exact iteN (fun c => absurd (by rw [tl]) c) fun _ => ⟨rfl, s22⟩
      | false =>
        rw [ha] at tl
        have tl : tless v = !decide (("lately" : Str) ∈ ws (lastT rows)) := tl
        refine iteT ⟨_, rfl, nin_strs (ns := ws (lastT rows)) e22 ⟨_, _, rfl, .bl _, (rb _).sh, (rb _).nd, (rb _).dp, (rb _).ln, rfl, _, rfl, ?_⟩⟩
        exact iteN (fun c => absurd (by rw [tl]) c) fun _ => ⟨rfl, s22⟩
    rintro σ H22 ⟨rfl, s22⟩
    have I22 := I21.same s22
    have st22 := st21.same s22
    have htv22 := dp_fix (Fix.of s22) _ _ plast htv21
    clear I16 I17 I18 I19 I21 st16 st18 st19 st21 htv16 htv18 htv19 htv21
    -- depths
    have ri : ∀ {d : PyData}, gt d = true → d.depth ≤ 9 → Rp (.int (dp d : Nat)) := fun g h => rp_int (by have := dp_le 9 h g; omega)
    refine ⟨fun σ H' => σ = [some (.ref a0), some (.ref p), some x, some (.ref L), o4, some (.ref S), some (.ref D), some tv, some (.ref E'), o9, some (.ref S2), some (.ref A), some (.ref B), o13, some (.ref T), some (.ref W0), some (.ref W1), o17, none, none] ∧ Same H22 H', ?_, ?_⟩
    · have r1 := ri glast dlast
      refine ⟨_, rfl, .ref S, rows, rfl, I22.st, rk, n0, by omega, fun H23 s23 => ?_⟩
      refine ⟨_, _, rfl, .int _, r1.sh, r1.nd, r1.dp, r1.ln, ?_⟩
      refine ⟨_, rfl, tv, lastT rows, rfl, dp_fix (Fix.of s23) _ _ plast htv22, glast, by omega, fun H24 s24 => ?_⟩
      refine ⟨_, _, rfl, .int _, r1.sh, r1.nd, r1.dp, r1.ln, rfl, _, rfl, iteN (fun c => absurd rfl c) fun _ => ?_⟩
      have s34 := s23.trans s24
      refine ⟨_, rfl, .ref S2, v, rfl, st22.same s34, rk2, td.pos, by omega, fun H25 s25 => ?_⟩
      rw [td.last]
      refine ⟨_, _, rfl, .int _, r1.sh, r1.nd, r1.dp, r1.ln, ?_⟩
      refine ⟨_, rfl, tv, lastT rows, rfl, dp_fix (Fix.of (s34.trans s25)) _ _ plast htv22, glast, by omega, fun H26 s26 => ?_⟩
      refine ⟨_, _, rfl, .int _, r1.sh, r1.nd, r1.dp, r1.ln, rfl, _, rfl, iteN (fun c => absurd rfl c) fun _ => ⟨rfl, (s34.trans s25).trans s26⟩⟩
    rintro σ H23 ⟨rfl, s23⟩
    have I23 := I22.same s23
    -- many
    refine ⟨_, rfl, _, rfl, L, its, rfl, .inl (SqL.of I23.eL), p, l, _, rfl, ⟨by rw [I23.al.len]; omega, by rw [I23.al.len]; omega⟩, I23.deal, fun m H24 m0 m1 k24 d24 => ?_⟩
    rw [I23.al.len] at m1
    have I24 := I23.kept2 k24 d24
    obtain ⟨m, rfl⟩ : ∃ z : Nat, m = (z : Nat) := ⟨m.toNat, by omega⟩
    have mlt : m < rows.length := by omega
    have tk : (rows.take (m + 1)).length = m + 1 := by rw [List.length_take]; omega
    have rkt : RkL (rows.take (m + 1)) := RkL.left (b := rows.drop (m + 1)) (by rw [List.take_append_drop]; exact rk)
    have lt : lastT (rows.take (m + 1)) = (trs rows).getD m .none := by
      unfold lastT tu
      rw [tk, Nat.add_sub_cancel]
      have := trs_pre (rows.take (m + 1)) (rows.drop (m + 1)) (i := m) (by omega)
      rw [List.take_append_drop] at this
      exact this.symm
    have gm := tr_gt rk.g mlt
    have dm := tr_depth rk.g n8 mlt
    have rm := ri gm dm
    have ilen : its.length = rows.length := I24.al.len
    refine ⟨_, rfl, _, rfl, _, _, rfl, rfl, ((m + 1 : Nat) : Int), rfl, L, its, rfl, SqL.of I24.eL, fun q0 hq0 => ?_⟩
    have s25 := same_new hq0 (.lst (cutV its none (some ((m + 1 : Nat) : Int))))
    have e25 : upd H24 q0 (.lst (cutV its none (some ((m + 1 : Nat) : Int)))) q0 = some (.lst (its.take (m + 1))) := by rw [upd_same, cut_take (by omega)]
    generalize upd H24 q0 (.lst (cutV its none (some ((m + 1 : Nat) : Int)))) = H25 at s25 e25 ⊢
    have I25 := I24.same s25
    refine fun Sx sx hSx hsx nex => ?_
    have s26 := ins_same (C := C_Stair) hSx hsx
    refine ⟨Sx, sx, q0, its.take (m + 1), rows.take (m + 1), rfl, upd_same, SqL.of (s26 _ _ e25), (I25.al.take (m + 1)).imp fun _ _ h => (h.fix (Fix.of s26)).row, by omega, by omega, rkt, fun H26 kS st26 => ⟨rfl, ?_⟩⟩
    have s56 : Same H25 H26 := fun b o e => kS b o (s26 b o e) (ne_of_none e hSx)
    have I26 := I25.same s56
    refine ⟨.ref Sx, rows.take (m + 1), rfl, st26, rkt, by omega, by omega, fun H27 s27 => ?_⟩
    rw [lt]
    have I27 := I26.same s27
    refine ⟨_, _, rfl, .int _, rm.sh, rm.nd, rm.dp, rm.ln, ?_⟩
    obtain ⟨ty, ety, hty⟩ := dpA_get I27.dp (i := m) (d := (trs rows).getD m .none) (by rw [getD_lt (by rw [trs_len]; exact mlt), List.getElem?_eq_getElem])
    refine ⟨_, rfl, _, rfl, D, ys, _, ty, rfl, rfl, SqL.of I27.eD, at_nat ety, ty, _, rfl, hty, gm, by omega, fun H28 s28 => ?_⟩
    refine ⟨_, _, rfl, .int _, rm.sh, rm.nd, rm.dp, rm.ln, rfl, _, rfl, iteN (fun c => absurd rfl c) fun _ => ⟨⟨_, _, _, _, _, _, _, _, _, _, _, _, _, _, _, _, rfl⟩, (I27.same s28).deal⟩⟩
end
end K3

namespace K3
open PySem PySem.Spec PyProof.Rows L2 Hb St Sq Ow En Zp RZ Rd StX
local macro_rules | `(tactic| walk_at "wp") => `(tactic| try simp only [cxOf, tKGet, gName, rIxT, rIxL, tOr, tAnd, tB, tCB, tAsg, tTup, tLst, tSl, tNoPart, tPart, tDrop, tBM, tBM0, tPar, tAug, tIf, tYes, tCKw, tSeq, tRet, tRetN, tTest, tOp, tUn, tVar, tC, tCall, tCons, tNil, tIfS, tNext, tAndV, tOrV, tNot, tNotV, rEq, rNe, rI0, rI, L2.start, List.map_cons, List.map_nil, List.cons_append, List.nil_append, List.length_cons, List.length_nil, List.append_nil, Nat.reduceAdd, Nat.reduceSub, Nat.zero_add, List.replicate, List.getElem?_cons_zero, List.getElem?_cons_succ, List.set_cons_zero, List.set_cons_succ, Option.some.injEq, exists_eq_left', exists_eq_left, V.bl.injEq, V.str.injEq, V.int.injEq, V.ref.injEq, V.ty.injEq, List.cons.injEq, and_true, true_and, exists_and_left])
theorem words_all {p : Str → Prop} (h0 : p "above") (h1 : p "rises") (h2 : p "falls") (h3 : p "rings") (h4 : p "not") (h5 : p "and") (h6 : p "or") (h7 : p "until") (h8 : p "since") (h9 : p "soon") (h10 : p "lately") : ∀ x ∈ wordsL, p x := fun x hx => by
  simp only [wordsL, List.mem_cons, List.not_mem_nil, or_false] at hx
  rcases hx with rfl | rfl | rfl | rfl | rfl | rfl | rfl | rfl | rfl | rfl | rfl <;> assumption
theorem fms_at {K : PySem.W.Frag} {w : World} {p : Addr} {es : Array DictEntry} {n : Nat} (l : K.lookup p = some ⟨.type "dict", none, .dict es n, #[]⟩) (k : PySem.W.KeysLit w.params es.toList) {x : Str} {t : Addr} {o : Obj} {nT : Nat} {ks : List Str} {vs : List Value} (hf : frm x = ks)
    (e : PySem.W.nsIn K p x = some (some (.ref t))) (lT : K.lookup t = some o) (c : o.cls = .type "tuple") (u : o.data = .seq vs.toArray nT) (r : Vals (ks.map V.str) vs) (hs : vs.length ≤ 10) : ∃ t, KDct K w p x (.ref t) ∧ ∀ H, SqT K H t ((frm x).map V.str) := by
  refine ⟨t, ⟨es, n, .ref t, l, k, e, rfl⟩, fun H => .inr ⟨o, _, nT, lT, c, u, ?_, ?_⟩⟩
  · rw [List.size_toArray, sizeLine_eq]; omega
  · rw [hf]; exact r
theorem v1 {a : Str} {t : Tok} : Vals [V.str a] [.str a t] := .cons ⟨_, rfl⟩ .nil
theorem v2 {a b : Str} {t u : Tok} : Vals [V.str a, .str b] [.str a t, .str b u] := .cons ⟨_, rfl⟩ (.cons ⟨_, rfl⟩ .nil)
theorem kb_no {K : PySem.W.Frag} {x qual : Str} {st : Stmt} {f : Addr} {fd : FuncData} {ps : List Str} (F : Fun K x qual st f fd) (n : Nat) (ks : List Str) (g : {α : Type} → List α → List α → List α)
    (hrel : ∀ {vs zs : List V} {us ws : List Value}, Vals vs us → Vals zs ws → Vals (g vs zs) (g us ws))
    (h : ∀ (kV doc pm : Value) (an : Option Addr) (cdv ct : Value) (us ws : List Value), us.length = n → ws.length = ks.length → bindArgs (PySem.W.fnOf x qual (defArgs st) (defBody st) (defScope st) .none kV doc pm an cdv ct) ⟨us, ks.zip ws⟩ = pure (ps.zip (g us ws))) :
    KBn K fd ps n ks (fun us ws => g us ws) (fun vs zs => g vs zs) := by
  obtain ⟨oc, od, kV, doc, pm, an, cdv, ct, osl, rfl, lk, hcd⟩ := F.ex
  exact ⟨fun s us ws X l1 l2 => .of_eq (h kV doc pm an cdv ct us ws l1 l2), fun r1 r2 => hrel r1 r2⟩
end K3

namespace K3
open PySem PySem.Spec PyProof.Rows L2 Hb St Sq Ow En Zp RZ Rd StX
theorem all_mk {l : PySem.W.OpenLaw} {w : World} {K : PySem.W.Frag} {h : Heap} {mg : Str → Option Value} {fa f0 f1 f2 f3 f4 f5 f6 f7 f8 f9 f10 f11 f12 f13 f14 f15 f16 f17 f18 f19 f20 f21 f22 f23 f24 f25 f26 : Addr} (X : K.In h) (G : h.Ns mainGlobals mg) (hfa : mg "law" = some (.ref fa)) {C_Stair : Addr} {pF : Addr} {esF : Array DictEntry} {nF : Nat} {pT0 : Addr} {oT0_ : Obj} {nT0_ : Nat} {kT0_0 kT0_1 : Tok} {pT1 : Addr} {oT1_ : Obj} {nT1_ : Nat} {kT1_0 : Tok} {pT2 : Addr} {oT2_ : Obj} {nT2_ : Nat} {kT2_0 : Tok} {pT3 : Addr} {oT3_ : Obj} {nT3_ : Nat} {kT3_0 : Tok} {pT4 : Addr} {oT4_ : Obj} {nT4_ : Nat} {kT4_0 : Tok} {pT5 : Addr} {oT5_ : Obj} {nT5_ : Nat} {kT5_0 kT5_1 : Tok} {pT6 : Addr} {oT6_ : Obj} {nT6_ : Nat} {kT6_0 kT6_1 : Tok} {pT7 : Addr} {oT7_ : Obj} {nT7_ : Nat} {kT7_0 kT7_1 : Tok} {pT8 : Addr} {oT8_ : Obj} {nT8_ : Nat} {kT8_0 kT8_1 : Tok} {pT9 : Addr} {oT9_ : Obj} {nT9_ : Nat} {kT9_0 kT9_1 : Tok} {pT10 : Addr} {oT10_ : Obj} {nT10_ : Nat} {kT10_0 kT10_1 : Tok} {tkc_LETTERS : Tok}
    {od0 an0 od1 an1 od2 an2 od3 an3 od4 an4 od5 an5 od6 an6 od7 an7 od8 an8 od9 an9 od10 an10 od11 an11 od12 an12 od13 an13 od14 an14 od15 an15 od16 an16 od17 an17 od18 an18 od19 an19 od20 an20 od21 an21 od22 an22 od23 an23 od24 an24 od25 an25 od26 an26 : Option Addr} {sl0 sl1 sl2 sl3 sl4 sl5 sl6 sl7 sl8 sl9 sl10 sl11 sl12 sl13 sl14 sl15 sl16 sl17 sl18 sl19 sl20 sl21 sl22 sl23 sl24 sl25 sl26 : Array (Option Value)} {oc0 kV0 dc0 pm0 cd0 ct0 oc1 kV1 dc1 pm1 cd1 ct1 oc2 kV2 dc2 pm2 cd2 ct2 oc3 kV3 dc3 pm3 cd3 ct3 oc4 kV4 dc4 pm4 cd4 ct4 oc5 kV5 dc5 pm5 cd5 ct5 oc6 kV6 dc6 pm6 cd6 ct6 oc7 kV7 dc7 pm7 cd7 ct7 oc8 kV8 dc8 pm8 cd8 ct8 oc9 kV9 dc9 pm9 cd9 ct9 oc10 kV10 dc10 pm10 cd10 ct10 oc11 kV11 dc11 pm11 cd11 ct11 oc12 kV12 dc12 pm12 cd12 ct12 oc13 kV13 dc13 pm13 cd13 ct13 oc14 kV14 dc14 pm14 cd14 ct14 oc15 kV15 dc15 pm15 cd15 ct15 oc16 kV16 dc16 pm16 cd16 ct16 oc17 kV17 dc17 pm17 cd17 ct17 oc18 kV18 dc18 pm18 cd18 ct18 oc19 kV19 dc19 pm19 cd19 ct19 oc20 kV20 dc20 pm20 cd20 ct20 oc21 kV21 dc21 pm21 cd21 ct21 oc22 kV22 dc22 pm22 cd22 ct22 oc23 kV23 dc23 pm23 cd23 ct23 oc24 kV24 dc24 pm24 cd24 ct24 oc25 kV25 dc25 pm25 cd25 ct25 oc26 kV26 dc26 pm26 cd26 ct26 : Value}
    (a0 : PySem.W.nsIn K mainGlobals "_law_deal" = some (some (.ref f0))) (l0 : K.lookup f0 = some ⟨oc0, od0, .func (PySem.W.fnOf "_law_deal" "_law_deal" (defArgs s__law_deal) (defBody s__law_deal) (defScope s__law_deal) .none kV0 dc0 pm0 an0 cd0 ct0), sl0⟩) (c0 : PySem.W.codeIn K cd0 "_law_deal" = true) (k0 : PySem.W.keepIn K (.ref f0) = true)
    (a1 : PySem.W.nsIn K mainGlobals "_law_deep" = some (some (.ref f1))) (l1 : K.lookup f1 = some ⟨oc1, od1, .func (PySem.W.fnOf "_law_deep" "_law_deep" (defArgs s__law_deep) (defBody s__law_deep) (defScope s__law_deep) .none kV1 dc1 pm1 an1 cd1 ct1), sl1⟩) (c1 : PySem.W.codeIn K cd1 "_law_deep" = true) (k1 : PySem.W.keepIn K (.ref f1) = true)
    (a2 : PySem.W.nsIn K mainGlobals "_law_draw" = some (some (.ref f2))) (l2 : K.lookup f2 = some ⟨oc2, od2, .func (PySem.W.fnOf "_law_draw" "_law_draw" (defArgs s__law_draw) (defBody s__law_draw) (defScope s__law_draw) .none kV2 dc2 pm2 an2 cd2 ct2), sl2⟩) (c2 : PySem.W.codeIn K cd2 "_law_draw" = true) (k2 : PySem.W.keepIn K (.ref f2) = true)
    (a3 : PySem.W.nsIn K mainGlobals "_law_is_within" = some (some (.ref f3))) (l3 : K.lookup f3 = some ⟨oc3, od3, .func (PySem.W.fnOf "_law_is_within" "_law_is_within" (defArgs s__law_is_within) (defBody s__law_is_within) (defScope s__law_is_within) .none kV3 dc3 pm3 an3 cd3 ct3), sl3⟩) (c3 : PySem.W.codeIn K cd3 "_law_is_within" = true) (k3 : PySem.W.keepIn K (.ref f3) = true)
    (a4 : PySem.W.nsIn K mainGlobals "_law_pick" = some (some (.ref f4))) (l4 : K.lookup f4 = some ⟨oc4, od4, .func (PySem.W.fnOf "_law_pick" "_law_pick" (defArgs s__law_pick) (defBody s__law_pick) (defScope s__law_pick) .none kV4 dc4 pm4 an4 cd4 ct4), sl4⟩) (c4 : PySem.W.codeIn K cd4 "_law_pick" = true) (k4 : PySem.W.keepIn K (.ref f4) = true)
    (a5 : PySem.W.nsIn K mainGlobals "_law_row" = some (some (.ref f5))) (l5 : K.lookup f5 = some ⟨oc5, od5, .func (PySem.W.fnOf "_law_row" "_law_row" (defArgs s__law_row) (defBody s__law_row) (defScope s__law_row) .none kV5 dc5 pm5 an5 cd5 ct5), sl5⟩) (c5 : PySem.W.codeIn K cd5 "_law_row" = true) (k5 : PySem.W.keepIn K (.ref f5) = true)
    (a6 : PySem.W.nsIn K mainGlobals "_law_trees" = some (some (.ref f6))) (l6 : K.lookup f6 = some ⟨oc6, od6, .func (PySem.W.fnOf "_law_trees" "_law_trees" (defArgs s__law_trees) (defBody s__law_trees) (defScope s__law_trees) .none kV6 dc6 pm6 an6 cd6 ct6), sl6⟩) (c6 : PySem.W.codeIn K cd6 "_law_trees" = true) (k6 : PySem.W.keepIn K (.ref f6) = true)
    (a7 : PySem.W.nsIn K mainGlobals "_law_words" = some (some (.ref f7))) (l7 : K.lookup f7 = some ⟨oc7, od7, .func (PySem.W.fnOf "_law_words" "_law_words" (defArgs s__law_words) (defBody s__law_words) (defScope s__law_words) .none kV7 dc7 pm7 an7 cd7 ct7), sl7⟩) (c7 : PySem.W.codeIn K cd7 "_law_words" = true) (k7 : PySem.W.keepIn K (.ref f7) = true)
    (a8 : PySem.W.nsIn K mainGlobals "is_timeless" = some (some (.ref f8))) (l8 : K.lookup f8 = some ⟨oc8, od8, .func (PySem.W.fnOf "is_timeless" "is_timeless" (defArgs s_is_timeless) (defBody s_is_timeless) (defScope s_is_timeless) .none kV8 dc8 pm8 an8 cd8 ct8), sl8⟩) (c8 : PySem.W.codeIn K cd8 "is_timeless" = true) (k8 : PySem.W.keepIn K (.ref f8) = true)
    (a9 : PySem.W.nsIn K mainGlobals "words_of" = some (some (.ref f9))) (l9 : K.lookup f9 = some ⟨oc9, od9, .func (PySem.W.fnOf "words_of" "words_of" (defArgs s_words_of) (defBody s_words_of) (defScope s_words_of) .none kV9 dc9 pm9 an9 cd9 ct9), sl9⟩) (c9 : PySem.W.codeIn K cd9 "words_of" = true) (k9 : PySem.W.keepIn K (.ref f9) = true)
    (a10 : PySem.W.nsIn K mainGlobals "stair_depth" = some (some (.ref f10))) (l10 : K.lookup f10 = some ⟨oc10, od10, .func (PySem.W.fnOf "stair_depth" "stair_depth" (defArgs s_stair_depth) (defBody s_stair_depth) (defScope s_stair_depth) .none kV10 dc10 pm10 an10 cd10 ct10), sl10⟩) (c10 : PySem.W.codeIn K cd10 "stair_depth" = true) (k10 : PySem.W.keepIn K (.ref f10) = true)
    (a11 : PySem.W.nsIn K mainGlobals "as_lot" = some (some (.ref f11))) (l11 : K.lookup f11 = some ⟨oc11, od11, .func (PySem.W.fnOf "as_lot" "as_lot" (defArgs s_as_lot) (defBody s_as_lot) (defScope s_as_lot) .none kV11 dc11 pm11 an11 cd11 ct11), sl11⟩) (c11 : PySem.W.codeIn K cd11 "as_lot" = true) (k11 : PySem.W.keepIn K (.ref f11) = true)
    (a12 : PySem.W.nsIn K mainGlobals "is_name" = some (some (.ref f12))) (l12 : K.lookup f12 = some ⟨oc12, od12, .func (PySem.W.fnOf "is_name" "is_name" (defArgs s_is_name) (defBody s_is_name) (defScope s_is_name) .none kV12 dc12 pm12 an12 cd12 ct12), sl12⟩) (c12 : PySem.W.codeIn K cd12 "is_name" = true) (k12 : PySem.W.keepIn K (.ref f12) = true)
    (a13 : PySem.W.nsIn K mainGlobals "stair_names" = some (some (.ref f13))) (l13 : K.lookup f13 = some ⟨oc13, od13, .func (PySem.W.fnOf "stair_names" "stair_names" (defArgs s_stair_names) (defBody s_stair_names) (defScope s_stair_names) .none kV13 dc13 pm13 an13 cd13 ct13), sl13⟩) (c13 : PySem.W.codeIn K cd13 "stair_names" = true) (k13 : PySem.W.keepIn K (.ref f13) = true)
    (a14 : PySem.W.nsIn K mainGlobals "needed_rows" = some (some (.ref f14))) (l14 : K.lookup f14 = some ⟨oc14, od14, .func (PySem.W.fnOf "needed_rows" "needed_rows" (defArgs s_needed_rows) (defBody s_needed_rows) (defScope s_needed_rows) .none kV14 dc14 pm14 an14 cd14 ct14), sl14⟩) (c14 : PySem.W.codeIn K cd14 "needed_rows" = true) (k14 : PySem.W.keepIn K (.ref f14) = true)
    (a15 : PySem.W.nsIn K mainGlobals "renumbered_row" = some (some (.ref f15))) (l15 : K.lookup f15 = some ⟨oc15, od15, .func (PySem.W.fnOf "renumbered_row" "renumbered_row" (defArgs s_renumbered_row) (defBody s_renumbered_row) (defScope s_renumbered_row) .none kV15 dc15 pm15 an15 cd15 ct15), sl15⟩) (c15 : PySem.W.codeIn K cd15 "renumbered_row" = true) (k15 : PySem.W.keepIn K (.ref f15) = true)
    (a16 : PySem.W.nsIn K mainGlobals "is_integer" = some (some (.ref f16))) (l16 : K.lookup f16 = some ⟨oc16, od16, .func (PySem.W.fnOf "is_integer" "is_integer" (defArgs s_is_integer) (defBody s_is_integer) (defScope s_is_integer) .none kV16 dc16 pm16 an16 cd16 ct16), sl16⟩) (c16 : PySem.W.codeIn K cd16 "is_integer" = true) (k16 : PySem.W.keepIn K (.ref f16) = true)
    (a17 : PySem.W.nsIn K mainGlobals "is_count" = some (some (.ref f17))) (l17 : K.lookup f17 = some ⟨oc17, od17, .func (PySem.W.fnOf "is_count" "is_count" (defArgs s_is_count) (defBody s_is_count) (defScope s_is_count) .none kV17 dc17 pm17 an17 cd17 ct17), sl17⟩) (c17 : PySem.W.codeIn K cd17 "is_count" = true) (k17 : PySem.W.keepIn K (.ref f17) = true)
    (a18 : PySem.W.nsIn K mainGlobals "is_number" = some (some (.ref f18))) (l18 : K.lookup f18 = some ⟨oc18, od18, .func (PySem.W.fnOf "is_number" "is_number" (defArgs s_is_number) (defBody s_is_number) (defScope s_is_number) .none kV18 dc18 pm18 an18 cd18 ct18), sl18⟩) (c18 : PySem.W.codeIn K cd18 "is_number" = true) (k18 : PySem.W.keepIn K (.ref f18) = true)
    (a19 : PySem.W.nsIn K mainGlobals "is_fit" = some (some (.ref f19))) (l19 : K.lookup f19 = some ⟨oc19, od19, .func (PySem.W.fnOf "is_fit" "is_fit" (defArgs s_is_fit) (defBody s_is_fit) (defScope s_is_fit) .none kV19 dc19 pm19 an19 cd19 ct19), sl19⟩) (c19 : PySem.W.codeIn K cd19 "is_fit" = true) (k19 : PySem.W.keepIn K (.ref f19) = true)
    (a20 : PySem.W.nsIn K mainGlobals "is_pair_of_sides" = some (some (.ref f20))) (l20 : K.lookup f20 = some ⟨oc20, od20, .func (PySem.W.fnOf "is_pair_of_sides" "is_pair_of_sides" (defArgs s_is_pair_of_sides) (defBody s_is_pair_of_sides) (defScope s_is_pair_of_sides) .none kV20 dc20 pm20 an20 cd20 ct20), sl20⟩) (c20 : PySem.W.codeIn K cd20 "is_pair_of_sides" = true) (k20 : PySem.W.keepIn K (.ref f20) = true)
    (a21 : PySem.W.nsIn K mainGlobals "is_row" = some (some (.ref f21))) (l21 : K.lookup f21 = some ⟨oc21, od21, .func (PySem.W.fnOf "is_row" "is_row" (defArgs s_is_row) (defBody s_is_row) (defScope s_is_row) .none kV21 dc21 pm21 an21 cd21 ct21), sl21⟩) (c21 : PySem.W.codeIn K cd21 "is_row" = true) (k21 : PySem.W.keepIn K (.ref f21) = true)
    (a22 : PySem.W.nsIn K mainGlobals "is_sequence" = some (some (.ref f22))) (l22 : K.lookup f22 = some ⟨oc22, od22, .func (PySem.W.fnOf "is_sequence" "is_sequence" (defArgs s_is_sequence) (defBody s_is_sequence) (defScope s_is_sequence) .none kV22 dc22 pm22 an22 cd22 ct22), sl22⟩) (c22 : PySem.W.codeIn K cd22 "is_sequence" = true) (k22 : PySem.W.keepIn K (.ref f22) = true)
    (a23 : PySem.W.findIn K (.ref C_Stair) "__init__" = some (some (.ref f23))) (l23 : K.lookup f23 = some ⟨oc23, od23, .func (PySem.W.fnOf "__init__" "Stair.__init__" (defArgs s_Stair___init__) (defBody s_Stair___init__) (defScope s_Stair___init__) .none kV23 dc23 pm23 an23 cd23 ct23), sl23⟩) (c23 : PySem.W.codeIn K cd23 "Stair.__init__" = true) (k23 : PySem.W.keepIn K (.ref f23) = true)
    (j23 : PySem.W.isFn K (.ref f23) = true)
    (a24 : PySem.W.nsIn K mainGlobals "tidy_stair" = some (some (.ref f24))) (l24 : K.lookup f24 = some ⟨oc24, od24, .func (PySem.W.fnOf "tidy_stair" "tidy_stair" (defArgs s_tidy_stair) (defBody s_tidy_stair) (defScope s_tidy_stair) .none kV24 dc24 pm24 an24 cd24 ct24), sl24⟩) (c24 : PySem.W.codeIn K cd24 "tidy_stair" = true) (k24 : PySem.W.keepIn K (.ref f24) = true)
    (a25 : PySem.W.findIn K (.ref C_Stair) "__eq__" = some (some (.ref f25))) (l25 : K.lookup f25 = some ⟨oc25, od25, .func (PySem.W.fnOf "__eq__" "Stair.__eq__" (defArgs s_Stair___eq__) (defBody s_Stair___eq__) (defScope s_Stair___eq__) .none kV25 dc25 pm25 an25 cd25 ct25), sl25⟩) (c25 : PySem.W.codeIn K cd25 "Stair.__eq__" = true) (k25 : PySem.W.keepIn K (.ref f25) = true)
    (j25 : PySem.W.isFn K (.ref f25) = true)
    (a26 : PySem.W.nsIn K mainGlobals "law" = some (some (.ref f26))) (l26 : K.lookup f26 = some ⟨oc26, od26, .func (PySem.W.fnOf "law" "law" (defArgs s_law) (defBody s_law) (defScope s_law) .none kV26 dc26 pm26 an26 cd26 ct26), sl26⟩) (c26 : PySem.W.codeIn K cd26 "law" = true) (k26 : PySem.W.keepIn K (.ref f26) = true)
    (z_abs : PySem.W.nsIn K mainGlobals "abs" = some none)
    (z_int : PySem.W.nsIn K mainGlobals "int" = some none)
    (z_isinstance : PySem.W.nsIn K mainGlobals "isinstance" = some none)
    (z_max : PySem.W.nsIn K mainGlobals "max" = some none)
    (z_tuple : PySem.W.nsIn K mainGlobals "tuple" = some none)
    (z_len : PySem.W.nsIn K mainGlobals "len" = some none)
    (z_all : PySem.W.nsIn K mainGlobals "all" = some none)
    (z_zip : PySem.W.nsIn K mainGlobals "zip" = some none)
    (z_set : PySem.W.nsIn K mainGlobals "set" = some none)
    (z_sorted : PySem.W.nsIn K mainGlobals "sorted" = some none)
    (z_str : PySem.W.nsIn K mainGlobals "str" = some none)
    (z_range : PySem.W.nsIn K mainGlobals "range" = some none)
    (z_bool : PySem.W.nsIn K mainGlobals "bool" = some none)
    (z_list : PySem.W.nsIn K mainGlobals "list" = some none)
    (z_enumerate : PySem.W.nsIn K mainGlobals "enumerate" = some none)
    (z_repr : PySem.W.nsIn K mainGlobals "repr" = some none)
    (g_LETTERS : PySem.W.nsIn K mainGlobals "LETTERS" = some (some (.int 8 tkc_LETTERS)))
    (aC_Stair : PySem.W.nsIn K mainGlobals "Stair" = some (some (.ref C_Stair)))
    (mk_Stair : PySem.W.makesIn K C_Stair = true)
    (kc_Stair : PySem.W.keepIn K (.ref C_Stair) = true)
    (pg : PySem.W.plainGet K C_Stair Str.empty = true)
    (hd : PySem.W.hasDictIn K C_Stair = true)
    (po : PySem.W.plainOver K C_Stair = true)
    (sa : PySem.W.findIn K (.ref C_Stair) "__setattr__" = some (some (.builtin "object.__setattr__")))
    (x1 : PySem.W.findIn K (.ref C_Stair) "__class__" = some (some (.builtin "object.__class__")))
    (x2 : PySem.W.specialIn K (.builtin "object.__class__") "__get__" = some (some (.builtin "getset_descriptor.__get__")))
    (x3 : PySem.W.takesIn K (.builtin "object.__class__") = some true)
    (x4 : PySem.W.mroIn K C_Stair (.type "object") = some true)
    (kC : PySem.W.kitOne K (.ref C_Stair) (.ref C_Stair) = some true)
    (sL : PySem.W.subIn K (.type "list") (.ref C_Stair) = some false)
    (nR : PySem.W.findIn K (.ref C_Stair) "rows" = some none)
    (gF : PySem.W.nsIn K mainGlobals "FORMS" = some (some (.ref pF)))
    (lF : K.lookup pF = some ⟨.type "dict", none, .dict esF nF, #[]⟩)
    (kF : PySem.W.KeysLit w.params esF.toList)
    (oF : (pF == sysModules) = false)
    (eF0 : PySem.W.nsIn K pF "above" = some (some (.ref pT0)))
    (lF0 : K.lookup pT0 = some oT0_)
    (cF0 : oT0_.cls = .type "tuple")
    (uF0 : oT0_.data = .seq ([.str "side" kT0_0, .str "side" kT0_1] : List Value).toArray nT0_)
    (eF1 : PySem.W.nsIn K pF "rises" = some (some (.ref pT1)))
    (lF1 : K.lookup pT1 = some oT1_)
    (cF1 : oT1_.cls = .type "tuple")
    (uF1 : oT1_.data = .seq ([.str "thing" kT1_0] : List Value).toArray nT1_)
    (eF2 : PySem.W.nsIn K pF "falls" = some (some (.ref pT2)))
    (lF2 : K.lookup pT2 = some oT2_)
    (cF2 : oT2_.cls = .type "tuple")
    (uF2 : oT2_.data = .seq ([.str "thing" kT2_0] : List Value).toArray nT2_)
    (eF3 : PySem.W.nsIn K pF "rings" = some (some (.ref pT3)))
    (lF3 : K.lookup pT3 = some oT3_)
    (cF3 : oT3_.cls = .type "tuple")
    (uF3 : oT3_.data = .seq ([.str "bell" kT3_0] : List Value).toArray nT3_)
    (eF4 : PySem.W.nsIn K pF "not" = some (some (.ref pT4)))
    (lF4 : K.lookup pT4 = some oT4_)
    (cF4 : oT4_.cls = .type "tuple")
    (uF4 : oT4_.data = .seq ([.str "row" kT4_0] : List Value).toArray nT4_)
    (eF5 : PySem.W.nsIn K pF "and" = some (some (.ref pT5)))
    (lF5 : K.lookup pT5 = some oT5_)
    (cF5 : oT5_.cls = .type "tuple")
    (uF5 : oT5_.data = .seq ([.str "row" kT5_0, .str "row" kT5_1] : List Value).toArray nT5_)
    (eF6 : PySem.W.nsIn K pF "or" = some (some (.ref pT6)))
    (lF6 : K.lookup pT6 = some oT6_)
    (cF6 : oT6_.cls = .type "tuple")
    (uF6 : oT6_.data = .seq ([.str "row" kT6_0, .str "row" kT6_1] : List Value).toArray nT6_)
    (eF7 : PySem.W.nsIn K pF "until" = some (some (.ref pT7)))
    (lF7 : K.lookup pT7 = some oT7_)
    (cF7 : oT7_.cls = .type "tuple")
    (uF7 : oT7_.data = .seq ([.str "row" kT7_0, .str "row" kT7_1] : List Value).toArray nT7_)
    (eF8 : PySem.W.nsIn K pF "since" = some (some (.ref pT8)))
    (lF8 : K.lookup pT8 = some oT8_)
    (cF8 : oT8_.cls = .type "tuple")
    (uF8 : oT8_.data = .seq ([.str "row" kT8_0, .str "row" kT8_1] : List Value).toArray nT8_)
    (eF9 : PySem.W.nsIn K pF "soon" = some (some (.ref pT9)))
    (lF9 : K.lookup pT9 = some oT9_)
    (cF9 : oT9_.cls = .type "tuple")
    (uF9 : oT9_.data = .seq ([.str "row" kT9_0, .str "count" kT9_1] : List Value).toArray nT9_)
    (eF10 : PySem.W.nsIn K pF "lately" = some (some (.ref pT10)))
    (lF10 : K.lookup pT10 = some oT10_)
    (cF10 : oT10_.cls = .type "tuple")
    (uF10 : oT10_.data = .seq ([.str "row" kT10_0, .str "count" kT10_1] : List Value).toArray nT10_)
    : ∃ fd : FuncData, (∀ (s : Shared) (v : Value), BindsTo s fd ⟨[v], []⟩ [("script", v)]) ∧ ∀ base : Heap, K.In base → base.Ns mainGlobals mg → Gu.FnG l.prog w K mg base CX0 14 fa fd ["script"] (spLaw K) := by
  have e := hfa.symm.trans (PySem.W.mg_of X G a26)
  cases e
  have F0 := fun_mk (st := s__law_deal) l0 c0 k0
  have b0 := F0.binds (ps := ["script", "base"]) fun _ _ _ _ _ _ us hl => match us, hl with | [_, _], _ => rfl
  have F1 := fun_mk (st := s__law_deep) l1 c1 k1
  have b1 := F1.binds (ps := ["tree"]) fun _ _ _ _ _ _ us hl => match us, hl with | [_], _ => rfl
  have F2 := fun_mk (st := s__law_draw) l2 c2 k2
  have b2 := F2.binds (ps := ["deal", "bound"]) fun _ _ _ _ _ _ us hl => match us, hl with | [_, _], _ => rfl
  have F3 := fun_mk (st := s__law_is_within) l3 c3 k3
  have b3 := F3.binds (ps := ["tree", "whole"]) fun _ _ _ _ _ _ us hl => match us, hl with | [_, _], _ => rfl
  have F4 := fun_mk (st := s__law_pick) l4 c4 k4
  have b4 := F4.binds (ps := ["deal", "some"]) fun _ _ _ _ _ _ us hl => match us, hl with | [_, _], _ => rfl
  have F5 := fun_mk (st := s__law_row) l5 c5 k5
  have b5 := F5.binds (ps := ["deal", "at"]) fun _ _ _ _ _ _ us hl => match us, hl with | [_, _], _ => rfl
  have F6 := fun_mk (st := s__law_trees) l6 c6 k6
  have b6 := F6.binds (ps := ["rows"]) fun _ _ _ _ _ _ us hl => match us, hl with | [_], _ => rfl
  have F7 := fun_mk (st := s__law_words) l7 c7 k7
  have b7 := F7.binds (ps := ["tree", "found"]) fun _ _ _ _ _ _ us hl => match us, hl with | [_, _], _ => rfl
  have F8 := fun_mk (st := s_is_timeless) l8 c8 k8
  have b8 := F8.binds (ps := ["stair"]) fun _ _ _ _ _ _ us hl => match us, hl with | [_], _ => rfl
  have F9 := fun_mk (st := s_words_of) l9 c9 k9
  have b9 := F9.binds (ps := ["row", "kind"]) fun _ _ _ _ _ _ us hl => match us, hl with | [_, _], _ => rfl
  have F10 := fun_mk (st := s_stair_depth) l10 c10 k10
  have b10 := F10.binds (ps := ["stair"]) fun _ _ _ _ _ _ us hl => match us, hl with | [_], _ => rfl
  have F11 := fun_mk (st := s_as_lot) l11 c11 k11
  have b11 := F11.binds (ps := ["values"]) fun _ _ _ _ _ _ us hl => match us, hl with | [_], _ => rfl
  have F12 := fun_mk (st := s_is_name) l12 c12 k12
  have b12 := F12.binds (ps := ["value"]) fun _ _ _ _ _ _ us hl => match us, hl with | [_], _ => rfl
  have F13 := fun_mk (st := s_stair_names) l13 c13 k13
  have b13 := F13.binds (ps := ["stair"]) fun _ _ _ _ _ _ us hl => match us, hl with | [_], _ => rfl
  have F14 := fun_mk (st := s_needed_rows) l14 c14 k14
  have b14 := F14.binds (ps := ["rows", "last"]) fun _ _ _ _ _ _ us hl => match us, hl with | [_, _], _ => rfl
  have F15 := fun_mk (st := s_renumbered_row) l15 c15 k15
  have b15 := F15.binds (ps := ["row", "numbers"]) fun _ _ _ _ _ _ us hl => match us, hl with | [_, _], _ => rfl
  have F16 := fun_mk (st := s_is_integer) l16 c16 k16
  have b16 := F16.binds (ps := ["value"]) fun _ _ _ _ _ _ us hl => match us, hl with | [_], _ => rfl
  have F17 := fun_mk (st := s_is_count) l17 c17 k17
  have b17 := F17.binds (ps := ["value"]) fun _ _ _ _ _ _ us hl => match us, hl with | [_], _ => rfl
  have F18 := fun_mk (st := s_is_number) l18 c18 k18
  have b18 := F18.binds (ps := ["value"]) fun _ _ _ _ _ _ us hl => match us, hl with | [_], _ => rfl
  have F19 := fun_mk (st := s_is_fit) l19 c19 k19
  have b19 := F19.binds (ps := ["kind", "value", "number"]) fun _ _ _ _ _ _ us hl => match us, hl with | [_, _, _], _ => rfl
  have F20 := fun_mk (st := s_is_pair_of_sides) l20 c20 k20
  have b20 := F20.binds (ps := ["one", "other"]) fun _ _ _ _ _ _ us hl => match us, hl with | [_, _], _ => rfl
  have F21 := fun_mk (st := s_is_row) l21 c21 k21
  have b21 := F21.binds (ps := ["value", "number"]) fun _ _ _ _ _ _ us hl => match us, hl with | [_, _], _ => rfl
  have F22 := fun_mk (st := s_is_sequence) l22 c22 k22
  have b22 := F22.binds (ps := ["value"]) fun _ _ _ _ _ _ us hl => match us, hl with | [_], _ => rfl
  have F23 := fun_mk (st := s_Stair___init__) l23 c23 k23
  have b23 := F23.binds (ps := ["self", "rows"]) fun _ _ _ _ _ _ us hl => match us, hl with | [_, _], _ => rfl
  have F24 := fun_mk (st := s_tidy_stair) l24 c24 k24
  have b24 := F24.binds (ps := ["stair"]) fun _ _ _ _ _ _ us hl => match us, hl with | [_], _ => rfl
  have F25 := fun_mk (st := s_Stair___eq__) l25 c25 k25
  have b25 := F25.binds (ps := ["self", "other"]) fun _ _ _ _ _ _ us hl => match us, hl with | [_, _], _ => rfl
  have F26 := fun_mk (st := s_law) l26 c26 k26
  have n_abs := PySem.W.mg_none_of X G z_abs
  have n_int := PySem.W.mg_none_of X G z_int
  have n_isinstance := PySem.W.mg_none_of X G z_isinstance
  have n_max := PySem.W.mg_none_of X G z_max
  have n_tuple := PySem.W.mg_none_of X G z_tuple
  have n_len := PySem.W.mg_none_of X G z_len
  have n_all := PySem.W.mg_none_of X G z_all
  have n_zip := PySem.W.mg_none_of X G z_zip
  have n_set := PySem.W.mg_none_of X G z_set
  have n_sorted := PySem.W.mg_none_of X G z_sorted
  have n_str := PySem.W.mg_none_of X G z_str
  have n_range := PySem.W.mg_none_of X G z_range
  have n_bool := PySem.W.mg_none_of X G z_bool
  have n_list := PySem.W.mg_none_of X G z_list
  have n_enumerate := PySem.W.mg_none_of X G z_enumerate
  have n_repr := PySem.W.mg_none_of X G z_repr
  refine ⟨PySem.W.fnOf "law" "law" (defArgs s_law) (defBody s_law) (defScope s_law) .none kV26 dc26 pm26 an26 cd26 ct26, fun s v => .of_eq rfl, fun base _ _ => ?_⟩
  have gg_Stair := PySem.W.mg_of X G aC_Stair
  have TC : Txt K mg C_Stair := ⟨⟨pg, hd, po, sa⟩, nR, PySem.W.mg_of X G aC_Stair, x1, x2, x3, x4, kC, sL⟩
  have FM : Fms K w mg pF := ⟨PySem.W.mg_of X G gF, ⟨_, _, lF, kF, oF⟩, words_all (p := fun x => ∃ t, KDct K w pF x (.ref t) ∧ ∀ H, SqT K H t ((frm x).map V.str)) (fms_at lF kF (by decide +kernel : frm "above" = [("side" : Str), ("side" : Str)]) eF0 lF0 cF0 uF0 v2 (by simp)) (fms_at lF kF (by decide +kernel : frm "rises" = [("thing" : Str)]) eF1 lF1 cF1 uF1 v1 (by simp)) (fms_at lF kF (by decide +kernel : frm "falls" = [("thing" : Str)]) eF2 lF2 cF2 uF2 v1 (by simp)) (fms_at lF kF (by decide +kernel : frm "rings" = [("bell" : Str)]) eF3 lF3 cF3 uF3 v1 (by simp)) (fms_at lF kF (by decide +kernel : frm "not" = [("row" : Str)]) eF4 lF4 cF4 uF4 v1 (by simp)) (fms_at lF kF (by decide +kernel : frm "and" = [("row" : Str), ("row" : Str)]) eF5 lF5 cF5 uF5 v2 (by simp)) (fms_at lF kF (by decide +kernel : frm "or" = [("row" : Str), ("row" : Str)]) eF6 lF6 cF6 uF6 v2 (by simp)) (fms_at lF kF (by decide +kernel : frm "until" = [("row" : Str), ("row" : Str)]) eF7 lF7 cF7 uF7 v2 (by simp)) (fms_at lF kF (by decide +kernel : frm "since" = [("row" : Str), ("row" : Str)]) eF8 lF8 cF8 uF8 v2 (by simp)) (fms_at lF kF (by decide +kernel : frm "soon" = [("row" : Str), ("count" : Str)]) eF9 lF9 cF9 uF9 v2 (by simp)) (fms_at lF kF (by decide +kernel : frm "lately" = [("row" : Str), ("count" : Str)]) eF10 lF10 cF10 uF10 v2 (by simp))⟩
  have gg_LETTERS := PySem.W.mg_of X G g_LETTERS
  have G__law_deal := ok_deal (P := l.prog) (w := w) (mg := mg) (base := base) F0 n_abs n_int
  have G__law_deep := rec_deep (P := l.prog) (w := w) (mg := mg) (base := base) F1 (PySem.W.mg_of X G a1) k1 b1 n_isinstance n_max n_tuple 11
  have G__law_draw := ok_draw (P := l.prog) (w := w) (mg := mg) (base := base) F2 n_int
  have G__law_is_within := rec_within (P := l.prog) (w := w) (mg := mg) (base := base) F3 (PySem.W.mg_of X G a3) k3 b3 n_isinstance n_tuple 11
  have C__law_draw_0 : Cl l.prog w K mg base "_law_draw" ["deal", "bound"] [] 1 spDraw := ⟨_, _, [], G__law_draw, PySem.W.mg_of X G a2, k2, b2, .nil⟩
  have G__law_pick := ok_pick (P := l.prog) (w := w) (mg := mg) (base := base) F4 C__law_draw_0 n_len
  have C__law_pick_1 : Cl l.prog w K mg base "_law_pick" ["deal", "some"] [] 2 spPick := ⟨_, _, [], G__law_pick, PySem.W.mg_of X G a4, k4, b4, .nil⟩
  have G__law_row := ok_lrow (P := l.prog) (w := w) (mg := mg) (base := base) F5 C__law_draw_0 C__law_pick_1
  have G__law_trees := ok_trees (P := l.prog) (w := w) (mg := mg) (base := base) F6
  have G__law_words := rec_words (P := l.prog) (w := w) (mg := mg) (base := base) F7 (PySem.W.mg_of X G a7) k7 b7 n_isinstance n_tuple 11
  have G_is_timeless := ok_timeless (P := l.prog) (w := w) (mg := mg) (base := base) F8 TC n_all
  have G_words_of := ok_wordsOf (P := l.prog) (w := w) (mg := mg) (base := base) F9 FM n_zip
  have C_words_of_2 : Cl l.prog w K mg base "words_of" ["row", "kind"] [] 1 (spWordsOf K) := ⟨_, _, [], G_words_of, PySem.W.mg_of X G a9, k9, b9, .nil⟩
  have G_stair_depth := ok_depth (P := l.prog) (w := w) (mg := mg) (base := base) F10 TC C_words_of_2 n_max
  have G_as_lot := ok_lot (P := l.prog) (w := w) (mg := mg) (base := base) F11 n_set n_sorted n_tuple
  have G_is_name := ok_isName (P := l.prog) (w := w) (mg := mg) (base := base) F12 gg_LETTERS n_isinstance n_len n_str
  have C_as_lot_3 : Cl l.prog w K mg base "as_lot" ["values"] [] 1 (spLot K) := ⟨_, _, [], G_as_lot, PySem.W.mg_of X G a11, k11, b11, .nil⟩
  have C_is_name_4 : Cl l.prog w K mg base "is_name" ["value"] [] 1 spIsName := ⟨_, _, [], G_is_name, PySem.W.mg_of X G a12, k12, b12, .nil⟩
  have G_stair_names := ok_names (P := l.prog) (w := w) (mg := mg) (base := base) F13 TC C_as_lot_3 C_is_name_4 C_words_of_2
  have G_needed_rows := ok_need (P := l.prog) (w := w) (mg := mg) (base := base) F14 C_as_lot_3 C_words_of_2 n_range
  have G_renumbered_row := ok_ren (P := l.prog) (w := w) (mg := mg) (base := base) F15 FM n_zip
  have G_is_integer := ok_isInt (P := l.prog) (w := w) (mg := mg) (base := base) F16 n_bool n_int n_isinstance
  have C_is_integer_5 : Cl l.prog w K mg base "is_integer" ["value"] [] 1 spIsInt := ⟨_, _, [], G_is_integer, PySem.W.mg_of X G a16, k16, b16, .nil⟩
  have G_is_count := ok_isCnt (P := l.prog) (w := w) (mg := mg) (base := base) F17 C_is_integer_5
  have G_is_number := ok_isNum (P := l.prog) (w := w) (mg := mg) (base := base) F18 C_is_integer_5
  have C_is_count_6 : Cl l.prog w K mg base "is_count" ["value"] [] 2 spIsCnt := ⟨_, _, [], G_is_count, PySem.W.mg_of X G a17, k17, b17, .nil⟩
  have C_is_number_7 : Cl l.prog w K mg base "is_number" ["value"] [] 2 spIsNum := ⟨_, _, [], G_is_number, PySem.W.mg_of X G a18, k18, b18, .nil⟩
  have G_is_fit := ok_isFit (P := l.prog) (w := w) (mg := mg) (base := base) F19 C_is_count_6 C_is_integer_5 C_is_name_4 C_is_number_7
  have G_is_pair_of_sides := ok_isSides (P := l.prog) (w := w) (mg := mg) (base := base) F20 C_is_name_4
  have C_is_fit_8 : Cl l.prog w K mg base "is_fit" ["kind", "value", "number"] [] 3 spIsFit := ⟨_, _, [], G_is_fit, PySem.W.mg_of X G a19, k19, b19, .nil⟩
  have C_is_pair_of_sides_9 : Cl l.prog w K mg base "is_pair_of_sides" ["one", "other"] [] 2 spSides := ⟨_, _, [], G_is_pair_of_sides, PySem.W.mg_of X G a20, k20, b20, .nil⟩
  have G_is_row := ok_isRow (P := l.prog) (w := w) (mg := mg) (base := base) F21 FM C_is_fit_8 C_is_pair_of_sides_9 n_all n_isinstance n_len n_str n_tuple n_zip
  have G_is_sequence := ok_isSeq (P := l.prog) (w := w) (mg := mg) (base := base) F22 n_isinstance n_list n_tuple
  have C_is_row_10 : Cl l.prog w K mg base "is_row" ["value", "number"] [] 4 (spIsRow K) := ⟨_, _, [], G_is_row, PySem.W.mg_of X G a21, k21, b21, .nil⟩
  have C_is_sequence_11 : Cl l.prog w K mg base "is_sequence" ["value"] [] 1 (spIsSeq K) := ⟨_, _, [], G_is_sequence, PySem.W.mg_of X G a22, k22, b22, .nil⟩
  have G_Stair___init__ := ok_init (P := l.prog) (w := w) (mg := mg) (base := base) F23 TC C_is_row_10 C_is_sequence_11 n_enumerate n_len n_tuple
  have C_needed_rows_12 : Cl l.prog w K mg base "needed_rows" ["rows", "last"] [] 2 (spNeed K) := ⟨_, _, [], G_needed_rows, PySem.W.mg_of X G a14, k14, b14, .nil⟩
  have C_renumbered_row_13 : Cl l.prog w K mg base "renumbered_row" ["row", "numbers"] [] 1 (spRen K) := ⟨_, _, [], G_renumbered_row, PySem.W.mg_of X G a15, k15, b15, .nil⟩
  have M_Stair_14 : Cm l.prog w K mg base "Stair" C_Stair ["self", "rows"] 5 (spInit K C_Stair) := ⟨_, _, ⟨mk_Stair, a23, j23, kc_Stair⟩, G_Stair___init__, PySem.W.mg_of X G aC_Stair, b23⟩
  have G_tidy_stair := ok_tidy (P := l.prog) (w := w) (mg := mg) (base := base) F24 TC C_needed_rows_12 C_renumbered_row_13 M_Stair_14 n_enumerate n_len
  have G_Stair___eq__ := ok_seq (P := l.prog) (w := w) (mg := mg) (base := base) F25 TC gg_Stair n_isinstance
  have C__law_deal_15 : Cl l.prog w K mg base "_law_deal" ["script", "base"] [] 1 (spDeal K) := ⟨_, _, [], G__law_deal, PySem.W.mg_of X G a0, k0, b0, .nil⟩
  have C__law_deep_16 : Cl l.prog w K mg base "_law_deep" ["tree"] [] 12 (spDeep K 11) := ⟨_, _, [], G__law_deep, PySem.W.mg_of X G a1, k1, b1, .nil⟩
  have C__law_is_within_17 : Cl l.prog w K mg base "_law_is_within" ["tree", "whole"] [] 12 (spWithin K 11) := ⟨_, _, [], G__law_is_within, PySem.W.mg_of X G a3, k3, b3, .nil⟩
  have C__law_row_18 : Cl l.prog w K mg base "_law_row" ["deal", "at"] [] 3 (spLRow K) := ⟨_, _, [], G__law_row, PySem.W.mg_of X G a5, k5, b5, .nil⟩
  have C__law_trees_19 : Cl l.prog w K mg base "_law_trees" ["rows"] [] 1 (spTrees K) := ⟨_, _, [], G__law_trees, PySem.W.mg_of X G a6, k6, b6, .nil⟩
  have C__law_words_20 : Cl l.prog w K mg base "_law_words" ["tree", "found"] [] 12 (spWords K 11) := ⟨_, _, [], G__law_words, PySem.W.mg_of X G a7, k7, b7, .nil⟩
  have C_is_timeless_21 : Cl l.prog w K mg base "is_timeless" ["stair"] [] 1 (spTimeless K C_Stair) := ⟨_, _, [], G_is_timeless, PySem.W.mg_of X G a8, k8, b8, .nil⟩
  have C_stair_depth_22 : Cl l.prog w K mg base "stair_depth" ["stair"] [] 2 (spDepth K C_Stair) := ⟨_, _, [], G_stair_depth, PySem.W.mg_of X G a10, k10, b10, .nil⟩
  have C_stair_names_23 : Cl l.prog w K mg base "stair_names" ["stair"] [] 3 (spNames K C_Stair) := ⟨_, _, [], G_stair_names, PySem.W.mg_of X G a13, k13, b13, .nil⟩
  have C_tidy_stair_24 : Cl l.prog w K mg base "tidy_stair" ["stair"] [] 7 (spTidy K C_Stair) := ⟨_, _, [], G_tidy_stair, PySem.W.mg_of X G a24, k24, b24, .nil⟩
  have B_CK_tidy_stair_25 := kb_no (ps := ["stair"]) F24 0 ["stair"] (fun us zs => us ++ zs) (fun r1 r2 => r1.append r2) fun kV doc pm an cdv ct us ws h1 h2 => match us, ws, h1, h2 with | [], [_], _, _ => rfl
  have CK_tidy_stair_25 : ClK l.prog w K mg base "tidy_stair" ["stair"] 0 ["stair"] (fun us zs => us ++ zs) 7 (spTidy K C_Stair) := ⟨_, _, _, G_tidy_stair, PySem.W.mg_of X G a24, k24, B_CK_tidy_stair_25⟩
  have D_eq_26 : Ch l.prog w K mg base C_Stair "__eq__" ["self", "other"] [] 1 (spSEq K C_Stair) := ⟨_, _, [], ⟨a25, j25, k25⟩, G_Stair___eq__, b25, .nil⟩
  exact ok_law F26 TC C__law_deal_15 C__law_deep_16 C__law_draw_0 C__law_is_within_17 C__law_row_18 C__law_trees_19 C__law_words_20 C_is_timeless_21 C_stair_depth_22 C_stair_names_23 C_tidy_stair_24 CK_tidy_stair_25 D_eq_26 M_Stair_14 gg_Stair n_enumerate n_isinstance n_len n_range n_repr n_str n_tuple
theorem walk {l : PySem.W.OpenLaw} {q : Program} {loose : List Str} {XP : (Str → Option Value) → Heap → Prop} {YP : World → Heap → Prop} {d : DefRec} {K : Params → PySem.W.Frag} (hn : l.most = some 63) (hdf : d.params.defaults = [])
    (hY : ∀ (w : World) (h : Heap), YP w h → (K w.params).In h)
    (F : ∀ (w : World) (mg : Str → Option Value) (fa : Addr) (h : Heap), (K w.params).In h → h.Ns mainGlobals mg → mg d.name = some (.ref fa) →
      ∃ fd : FuncData, (∀ (s : Shared) (u : Value), BindsTo s fd ⟨[u], []⟩ [("script", u)]) ∧ ∀ base : Heap, (K w.params).In base → base.Ns mainGlobals mg → Gu.FnG l.prog w (K w.params) mg base CX0 14 fa fd ["script"] (spLaw (K w.params))) :
    PySem.W.WalkO q loose XP YP l.row.toRowW d [] (fun f vs => PySem.call f vs) :=
  Gu.walk_go (n := 63) (k := 14) (x := "script") (sp := fun w => spLaw (K w.params)) hn (by decide) hdf ⟨rfl, by decide, by decide⟩ hY F (fun _ _ a ns hl hS => ⟨a, ns, rfl, hS, hl, fun _ => rfl⟩)
end K3
open PySem PySem.W PyProof.Rows
set_option maxRecDepth 100000 in
set_option maxHeartbeats 0 in
theorem PySem.Challenge.cw_curvebells_k30_stairs_made_tidy_holds : PySem.Challenge.rw_curvebells_k30_stairs_made_tidy.Holds := by
  w_on; o_law; k_head; (case hw => w_witness2)
  k_fill
  refine K3.walk (l := PySem.Challenge.rw_curvebells_k30_stairs_made_tidy) rfl rfl (fun w h Y => PySem.W.kIn_of Y) ?F
  case F =>
    intro w mg fa h KX G hmg
    refine' K3.all_mk KX G hmg ?a0 ?l0 ?c0 ?k0 ?a1 ?l1 ?c1 ?k1 ?a2 ?l2 ?c2 ?k2 ?a3 ?l3 ?c3 ?k3 ?a4 ?l4 ?c4 ?k4 ?a5 ?l5 ?c5 ?k5 ?a6 ?l6 ?c6 ?k6 ?a7 ?l7 ?c7 ?k7 ?a8 ?l8 ?c8 ?k8 ?a9 ?l9 ?c9 ?k9 ?a10 ?l10 ?c10 ?k10 ?a11 ?l11 ?c11 ?k11 ?a12 ?l12 ?c12 ?k12 ?a13 ?l13 ?c13 ?k13 ?a14 ?l14 ?c14 ?k14 ?a15 ?l15 ?c15 ?k15 ?a16 ?l16 ?c16 ?k16 ?a17 ?l17 ?c17 ?k17 ?a18 ?l18 ?c18 ?k18 ?a19 ?l19 ?c19 ?k19 ?a20 ?l20 ?c20 ?k20 ?a21 ?l21 ?c21 ?k21 ?a22 ?l22 ?c22 ?k22 ?a23 ?l23 ?c23 ?k23 ?j23 ?a24 ?l24 ?c24 ?k24 ?a25 ?l25 ?c25 ?k25 ?j25 ?a26 ?l26 ?c26 ?k26 ?z_abs ?z_int ?z_isinstance ?z_max ?z_tuple ?z_len ?z_all ?z_zip ?z_set ?z_sorted ?z_str ?z_range ?z_bool ?z_list ?z_enumerate ?z_repr ?g_LETTERS ?aC_Stair ?mk_Stair ?kc_Stair ?pg ?hd ?po ?sa ?x1 ?x2 ?x3 ?x4 ?kC ?sL ?nR ?gF ?lF ?kF ?oF ?eF0 ?lF0 ?cF0 ?uF0 ?eF1 ?lF1 ?cF1 ?uF1 ?eF2 ?lF2 ?cF2 ?uF2 ?eF3 ?lF3 ?cF3 ?uF3 ?eF4 ?lF4 ?cF4 ?uF4 ?eF5 ?lF5 ?cF5 ?uF5 ?eF6 ?lF6 ?cF6 ?uF6 ?eF7 ?lF7 ?cF7 ?uF7 ?eF8 ?lF8 ?cF8 ?uF8 ?eF9 ?lF9 ?cF9 ?uF9 ?eF10 ?lF10 ?cF10 ?uF10
    (case aC_Stair => k_is)
    (case a0 => k_is); (case l0 => k_is); (case c0 => k_is); (case k0 => k_is)
    (case a1 => k_is); (case l1 => k_is); (case c1 => k_is); (case k1 => k_is)
    (case a2 => k_is); (case l2 => k_is); (case c2 => k_is); (case k2 => k_is)
    (case a3 => k_is); (case l3 => k_is); (case c3 => k_is); (case k3 => k_is)
    (case a4 => k_is); (case l4 => k_is); (case c4 => k_is); (case k4 => k_is)
    (case a5 => k_is); (case l5 => k_is); (case c5 => k_is); (case k5 => k_is)
    (case a6 => k_is); (case l6 => k_is); (case c6 => k_is); (case k6 => k_is)
    (case a7 => k_is); (case l7 => k_is); (case c7 => k_is); (case k7 => k_is)
    (case a8 => k_is); (case l8 => k_is); (case c8 => k_is); (case k8 => k_is)
    (case a9 => k_is); (case l9 => k_is); (case c9 => k_is); (case k9 => k_is)
    (case a10 => k_is); (case l10 => k_is); (case c10 => k_is); (case k10 => k_is)
    (case a11 => k_is); (case l11 => k_is); (case c11 => k_is); (case k11 => k_is)
    (case a12 => k_is); (case l12 => k_is); (case c12 => k_is); (case k12 => k_is)
    (case a13 => k_is); (case l13 => k_is); (case c13 => k_is); (case k13 => k_is)
    (case a14 => k_is); (case l14 => k_is); (case c14 => k_is); (case k14 => k_is)
    (case a15 => k_is); (case l15 => k_is); (case c15 => k_is); (case k15 => k_is)
    (case a16 => k_is); (case l16 => k_is); (case c16 => k_is); (case k16 => k_is)
    (case a17 => k_is); (case l17 => k_is); (case c17 => k_is); (case k17 => k_is)
    (case a18 => k_is); (case l18 => k_is); (case c18 => k_is); (case k18 => k_is)
    (case a19 => k_is); (case l19 => k_is); (case c19 => k_is); (case k19 => k_is)
    (case a20 => k_is); (case l20 => k_is); (case c20 => k_is); (case k20 => k_is)
    (case a21 => k_is); (case l21 => k_is); (case c21 => k_is); (case k21 => k_is)
    (case a22 => k_is); (case l22 => k_is); (case c22 => k_is); (case k22 => k_is)
    (case a23 => k_is); (case l23 => k_is); (case c23 => k_is); (case k23 => k_is); (case j23 => k_is)
    (case a24 => k_is); (case l24 => k_is); (case c24 => k_is); (case k24 => k_is)
    (case a25 => k_is); (case l25 => k_is); (case c25 => k_is); (case k25 => k_is); (case j25 => k_is)
    (case a26 => k_is); (case l26 => k_is); (case c26 => k_is); (case k26 => k_is)
    (case z_abs => k_is); (case z_int => k_is); (case z_isinstance => k_is); (case z_max => k_is); (case z_tuple => k_is); (case z_len => k_is); (case z_all => k_is); (case z_zip => k_is); (case z_set => k_is); (case z_sorted => k_is); (case z_str => k_is); (case z_range => k_is); (case z_bool => k_is); (case z_list => k_is); (case z_enumerate => k_is); (case z_repr => k_is)
    (case g_LETTERS => k_is)
    (case mk_Stair => k_is)
    (case kc_Stair => k_is)
    (case pg => k_is)
    (case hd => k_is)
    (case po => k_is)
    (case sa => k_is)
    (case x1 => k_is)
    (case x2 => k_is)
    (case x3 => k_is)
    (case x4 => k_is)
    (case kC => kit_is)
    (case sL => k_is)
    (case nR => k_is)
    (case gF => k_is)
    (case lF => k_is)
    (case kF => k_keys)
    (case oF => decide)
    (case eF0 => k_is)
    (case lF0 => k_is)
    (case cF0 => rfl)
    (case uF0 => rfl)
    (case eF1 => k_is)
    (case lF1 => k_is)
    (case cF1 => rfl)
    (case uF1 => rfl)
    (case eF2 => k_is)
    (case lF2 => k_is)
    (case cF2 => rfl)
    (case uF2 => rfl)
    (case eF3 => k_is)
    (case lF3 => k_is)
    (case cF3 => rfl)
    (case uF3 => rfl)
    (case eF4 => k_is)
    (case lF4 => k_is)
    (case cF4 => rfl)
    (case uF4 => rfl)
    (case eF5 => k_is)
    (case lF5 => k_is)
    (case cF5 => rfl)
    (case uF5 => rfl)
    (case eF6 => k_is)
    (case lF6 => k_is)
    (case cF6 => rfl)
    (case uF6 => rfl)
    (case eF7 => k_is)
    (case lF7 => k_is)
    (case cF7 => rfl)
    (case uF7 => rfl)
    (case eF8 => k_is)
    (case lF8 => k_is)
    (case cF8 => rfl)
    (case uF8 => rfl)
    (case eF9 => k_is)
    (case lF9 => k_is)
    (case cF9 => rfl)
    (case uF9 => rfl)
    (case eF10 => k_is)
    (case lF10 => k_is)
    (case cF10 => rfl)
    (case uF10 => rfl)
